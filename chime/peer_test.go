package chime_test

import (
	"bytes"
	"fmt"
	"math"
	"math/rand"
	"testing"

	"chime/api"
	"chime/chime"
)

// answering is an answer that a peer takes if it waits for this origin.
func answering(origin, receive, transmit uint64) api.Packet {
	return api.Packet{
		Leap: 1, Version: 3, Mode: api.Server, Stratum: 2, Poll: 6, Precision: -20,
		Delay: 5, Dispersion: 6, Id: 7, Reference: 8,
		Origin: origin, Receive: receive, Transmit: transmit,
	}
}

func checkTake(t *testing.T, what string, p *chime.Peer, reply []byte, at uint64, want api.Sample, wantErrno api.Errno) {
	t.Helper()
	if s, e := p.Take(reply, at); s != want || e != wantErrno {
		t.Errorf("P7: Take, %s: %+v, %d, want %+v, %d", what, s, e, want, wantErrno)
	}
}

func refuses(t *testing.T, what string, p *chime.Peer, reply []byte, want api.Errno) {
	t.Helper()
	checkTake(t, what, p, reply, 1000, api.Sample{}, want)
}

func checkBest(t *testing.T, what string, p *chime.Peer, want api.Sample, differ float64, wantErrno api.Errno) {
	t.Helper()
	s, d, e := p.Best()
	if s != want || math.Float64bits(d) != math.Float64bits(differ) || e != wantErrno {
		t.Errorf("P8: Best, %s: %+v, %v, %d, want %+v, %v, %d", what, s, d, e, want, differ, wantErrno)
	}
}

// give has a peer take this sample: both ways take half of the delay, but for one part if it is odd.
func give(t *testing.T, p *chime.Peer, s api.Sample) {
	t.Helper()
	const start = 1 << 40
	half, odd := s.Delay>>1, s.Delay&1
	in := start + uint64(s.Offset+half+odd)
	at := in - uint64(s.Offset-half)
	p.Ask(start)
	checkTake(t, "one of some", p, formed(t, answering(start, in, in)), at, s, api.OK)
}

func TestP7AskBytes(t *testing.T) {
	p := chime.NewPeer()
	for _, transmit := range []uint64{0, 1, 1000, 0x0102030405060708, 1 << 63, math.MaxUint64, 0} {
		want := make([]byte, 48)
		want[0] = 4<<3 | 3
		for i := range 8 {
			want[40+i] = byte(transmit >> (56 - 8*i))
		}
		if got := p.Ask(transmit); !bytes.Equal(got, want) {
			t.Errorf("P7: Ask(%d) = % x, want % x", transmit, got, want)
		}
	}
}

func TestP7TakeMeasures(t *testing.T) {
	r := rand.New(rand.NewSource(9))
	p := chime.NewPeer()
	for range 2000 {
		transmit, receive, at := r.Uint64(), r.Uint64(), r.Uint64()
		left := receive + uint64(r.Int63())
		answer := answering(transmit, receive, left)
		answer.Leap, answer.Version, answer.Stratum = r.Intn(3), 3+r.Intn(2), 1+r.Intn(15)
		p.Ask(transmit)
		what := fmt.Sprintf("%+v at %d", answer, at)
		checkTake(t, what, p, formed(t, answer), at, measuredByWhole(transmit, receive, left, at), api.OK)
	}
}

func TestP7TakeFromAServerThatReplies(t *testing.T) {
	p := chime.NewPeer()
	reply, e := chime.Reply(p.Ask(1000), serving(), 3010, 3015)
	if e != api.OK {
		t.Fatalf("P6: Reply: %d", e)
	}
	checkTake(t, "a reply", p, reply, 1035, api.Sample{Offset: 1995, Delay: 30}, api.OK)
}

func TestP7WaitsForOneAlone(t *testing.T) {
	p := chime.NewPeer()
	to := func(origin uint64) []byte { return formed(t, answering(origin, origin, origin)) }
	refuses(t, "not asked, origin 0", p, to(0), api.ErrOrigin)
	p.Ask(0)
	refuses(t, "origin 1 for 0", p, to(1), api.ErrOrigin)
	checkTake(t, "asked at 0", p, to(0), 0, api.Sample{}, api.OK)
	refuses(t, "again", p, to(0), api.ErrOrigin)
	p.Ask(5)
	p.Ask(6)
	refuses(t, "the one ahead of the last", p, to(5), api.ErrOrigin)
	refuses(t, "the low half alone is right", p, to(1<<32+6), api.ErrOrigin)
	refuses(t, "the last byte alone is wrong", p, to(7), api.ErrOrigin)
	checkTake(t, "the last one", p, to(6), 6, api.Sample{}, api.OK)
	refuses(t, "the first one, when nothing is waited for", p, to(5), api.ErrOrigin)
	p.Ask(6)
	p.Ask(6)
	checkTake(t, "asked twice", p, to(6), 6, api.Sample{}, api.OK)
	refuses(t, "asked twice, taken again", p, to(6), api.ErrOrigin)
	p.Ask(math.MaxUint64)
	checkTake(t, "the greatest", p, to(math.MaxUint64), math.MaxUint64, api.Sample{}, api.OK)
}

func TestP7PeersAreApart(t *testing.T) {
	one, other := chime.NewPeer(), chime.NewPeer()
	reply := formed(t, answering(10, 20, 20))
	one.Ask(10)
	refuses(t, "another was asked", other, reply, api.ErrOrigin)
	other.Ask(11)
	checkTake(t, "another was asked since", one, reply, 10, api.Sample{Offset: 10}, api.OK)
	checkBest(t, "another has one", other, api.Sample{}, 0, api.ErrFew)
	checkBest(t, "of its own", one, api.Sample{Offset: 10}, 0, api.OK)
}

// faulty is replies to a request of 1000 parts, each with one fault, in the order of the errors.
func faulty() []struct {
	errno api.Errno
	spoil func(*api.Packet)
} {
	type p = api.Packet
	return []struct {
		errno api.Errno
		spoil func(*p)
	}{
		{api.ErrMode, func(a *p) { a.Mode = api.Client }},
		{api.ErrOrigin, func(a *p) { a.Origin = 1001 }},
		{api.ErrSync, func(a *p) { a.Stratum = 0 }},
		{api.ErrSync, func(a *p) { a.Stratum = 16 }},
		{api.ErrSync, func(a *p) { a.Stratum = 255 }},
		{api.ErrSync, func(a *p) { a.Leap = 3 }},
		{api.ErrBack, func(a *p) { a.Transmit = a.Receive - 1 }},
		{api.ErrBack, func(a *p) { a.Transmit = a.Receive + 1<<63 }},
	}
}

func TestP7FirstNamedErrorOfTake(t *testing.T) {
	p := chime.NewPeer()
	p.Ask(1000)
	for i, first := range faulty() {
		for j, second := range faulty()[i:] {
			answer := answering(1000, 2000, 2000)
			second.spoil(&answer)
			first.spoil(&answer)
			b := formed(t, answer)
			what := fmt.Sprintf("faults %d and %d", i, i+j)
			refuses(t, what, p, b, first.errno)
			refuses(t, what+", 47 bytes", p, b[:47], api.ErrShort)
			refuses(t, what+", 49 bytes", p, append(b[:48:48], 0), api.ErrLong)
			b[0] = 5<<3 | 7
			refuses(t, what+", another version and mode", p, b, api.ErrVersion)
			b[0] = 4<<3 | 7
			refuses(t, what+", another mode", p, b, api.ErrMode)
		}
	}
	refuses(t, "nil", p, nil, api.ErrShort)
}

func TestP7NotAskedGoesAheadOfTheState(t *testing.T) {
	for i, fault := range faulty() {
		answer := answering(0, 2000, 2000)
		fault.spoil(&answer)
		want := api.ErrOrigin
		if fault.errno == api.ErrMode {
			want = api.ErrMode
		}
		refuses(t, fmt.Sprintf("not asked, fault %d", i), chime.NewPeer(), formed(t, answer), want)
	}
}

func TestP7TakesWhatIsStillRight(t *testing.T) {
	for _, c := range []struct {
		stratum, leap int
		later         uint64
	}{
		{1, 0, 0}, {15, 2, 0}, {1, 1, 1}, {15, 0, 1<<63 - 1},
	} {
		p := chime.NewPeer()
		p.Ask(1000)
		receive := uint64(math.MaxUint64)
		answer := answering(1000, receive, receive+c.later)
		answer.Stratum, answer.Leap = c.stratum, c.leap
		want := measuredByWhole(1000, receive, receive+c.later, 1010)
		checkTake(t, fmt.Sprintf("%+v", c), p, formed(t, answer), 1010, want, api.OK)
	}
}

func TestP7ErrorsChangeNothing(t *testing.T) {
	for _, fault := range faulty() {
		p := chime.NewPeer()
		give(t, p, api.Sample{Offset: 70, Delay: 4})
		p.Ask(1000)
		answer := answering(1000, 2000, 2000)
		fault.spoil(&answer)
		for range 10 {
			refuses(t, "a fault", p, formed(t, answer), fault.errno)
			refuses(t, "47 bytes", p, formed(t, answer)[:47], api.ErrShort)
		}
		checkBest(t, "behind a fault", p, api.Sample{Offset: 70, Delay: 4}, 0, api.OK)
		right := formed(t, answering(1000, 2000, 2000))
		checkTake(t, "behind a fault", p, right, 1002, api.Sample{Offset: 999, Delay: 2}, api.OK)
		refuses(t, "again", p, right, api.ErrOrigin)
		checkBest(t, "behind both", p, api.Sample{Offset: 999, Delay: 2}, 929.0/(1<<32), api.OK)
	}
}
