// Package chime: time over a network: see DOC.md.
package chime

import (
	"chime/agree"
	"chime/api"
	"chime/clock"
	"chime/packet"
	"chime/peer"
	"chime/server"
	"chime/span"
	"chime/timetext"
)

// Parse reads a packet (P3).
func Parse(b []byte) (api.Packet, api.Errno) { return packet.Parse(b) }

// Form writes a packet (P3).
func Form(p api.Packet) ([]byte, api.Errno) { return packet.Form(p) }

// Read reads a time (P4).
func Read(text string) (uint64, api.Errno, int) { return timetext.Read(text) }

// Tell tells a time (P4).
func Tell(t uint64) string { return timetext.Tell(t) }

// Measure tells offset and delay of four times (P5).
func Measure(t1, t2, t3, t4 uint64) api.Sample { return span.Measure(t1, t2, t3, t4) }

// Reply answers a request (P6).
func Reply(request []byte, state api.Packet, receive, transmit uint64) ([]byte, api.Errno) {
	return server.Reply(request, state, receive, transmit)
}

// Peer is a server that is asked.
type Peer struct{ inner peer.Peer }

// NewPeer makes one that was not asked yet (P7).
func NewPeer() *Peer { return &Peer{} }

// Ask makes a request (P7).
func (p *Peer) Ask(transmit uint64) []byte { return p.inner.Ask(transmit) }

// Take takes an answer (P7).
func (p *Peer) Take(reply []byte, at uint64) (api.Sample, api.Errno) {
	return p.inner.Take(reply, at)
}

// Best tells the best of the last samples, and how much they differ (P8).
func (p *Peer) Best() (api.Sample, float64, api.Errno) { return p.inner.Best() }

// Select tells on what enough clocks agree (P9).
func Select(l []api.Tick) (api.Choice, api.Errno) { return agree.Select(l) }

// Combine tells what they say together (P10).
func Combine(l []api.Tick) (int64, api.Errno) { return agree.Combine(l) }

// Clock is one that never goes back.
type Clock struct{ inner clock.Clock }

// NewClock makes one that does not know the time yet (P11).
func NewClock() *Clock { return &Clock{} }

// Publish sets it (P11).
func (c *Clock) Publish(counter, time uint64, rate int64) api.Errno {
	return c.inner.Publish(counter, time, rate)
}

// Now tells the time (P12).
func (c *Clock) Now(counter uint64) (uint64, api.Errno) { return c.inner.Now(counter) }

// Serve tells many times, by several readers (P12).
func (c *Clock) Serve(counters []uint64, readers int) ([]uint64, api.Errno) {
	return c.inner.Serve(counters, readers)
}
