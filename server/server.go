// Package server answers those who ask for the time.
package server

import (
	"chime/api"
	"chime/packet"
	"chime/span"
)

// Reply makes the answer to a request that came in at receive, and goes off at transmit.
func Reply(request []byte, state api.Packet, receive, transmit uint64) ([]byte, api.Errno) {
	asked, errno := packet.Parse(request)
	if errno != api.OK {
		return nil, errno
	}
	if asked.Mode != api.Client {
		return nil, api.ErrMode
	}
	if span.Ahead(transmit, receive) {
		return nil, api.ErrBack
	}
	return packet.Form(api.Packet{
		Leap:       state.Leap,
		Version:    asked.Version,
		Mode:       api.Server,
		Stratum:    state.Stratum,
		Poll:       asked.Poll,
		Precision:  state.Precision,
		Delay:      state.Delay,
		Dispersion: state.Dispersion,
		Id:         state.Id,
		Reference:  state.Reference,
		Origin:     asked.Transmit,
		Receive:    receive,
		Transmit:   transmit,
	})
}
