// Package peer asks one server for the time, and keeps its last samples.
package peer

import (
	"chime/api"
	"chime/packet"
	"chime/span"
)

const (
	version    = 4
	maxStratum = 15 // of a server that knows the time
	unknown    = 3  // the Leap of one that does not
)

// Peer is a server that is asked. One of zeros was not asked, and has no samples.
type Peer struct {
	// waits stands apart from asked, since every number may be a Transmit.
	waits   bool
	asked   uint64
	samples [api.Stages]api.Sample // oldest first
	count   int
}

// Ask makes a request, and gives up on the one ahead of it.
func (p *Peer) Ask(transmit uint64) []byte {
	p.waits, p.asked = true, transmit
	request, _ := packet.Form(api.Packet{Version: version, Mode: api.Client, Transmit: transmit})
	return request
}

// Take takes the answer to the request, that came in at this time.
func (p *Peer) Take(reply []byte, at uint64) (api.Sample, api.Errno) {
	answer, errno := packet.Parse(reply)
	if errno == api.OK {
		errno = p.check(answer)
	}
	if errno != api.OK {
		return api.Sample{}, errno
	}
	p.waits = false
	sample := span.Measure(answer.Origin, answer.Receive, answer.Transmit, at)
	p.keep(sample)
	return sample, api.OK
}

// Best tells the sample with the least delay, and how much the others differ from it.
func (p *Peer) Best() (api.Sample, float64, api.Errno) {
	if p.count == 0 {
		return api.Sample{}, 0, api.ErrFew
	}
	counting := p.samples[:p.count]
	best := leastDelay(counting)
	return counting[best], spread(counting, best), api.OK
}

func (p *Peer) check(answer api.Packet) api.Errno {
	switch {
	case answer.Mode != api.Server:
		return api.ErrMode
	case !p.waits || answer.Origin != p.asked:
		return api.ErrOrigin
	case answer.Stratum < 1 || answer.Stratum > maxStratum || answer.Leap == unknown:
		return api.ErrSync
	case span.Ahead(answer.Transmit, answer.Receive):
		return api.ErrBack
	}
	return api.OK
}

func (p *Peer) keep(sample api.Sample) {
	if p.count == api.Stages {
		copy(p.samples[:], p.samples[1:])
		p.count--
	}
	p.samples[p.count] = sample
	p.count++
}
