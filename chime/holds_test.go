package chime_test

import (
	"math/rand"
	"testing"

	"chime/api"
	"chime/chime"
)

func TestP13ParseOfForm(t *testing.T) {
	r := rand.New(rand.NewSource(3))
	for range 2000 {
		p := randomPacket(r)
		b, e := chime.Form(p)
		if e != api.OK {
			t.Fatalf("P13: Form(%+v): %d", p, e)
		}
		if back, e := chime.Parse(b); back != p || e != api.OK {
			t.Errorf("P13: Parse(Form(%+v)) = %+v, %d", p, back, e)
		}
	}
}

func TestP13ReadOfTell(t *testing.T) {
	for _, v := range someTimes(rand.New(rand.NewSource(5))) {
		if back, e, place := chime.Read(chime.Tell(v)); e != api.OK || place != 0 || back > v || v-back > 1 {
			t.Errorf("P13: Read(Tell(%d)) = %d, %d, %d", v, back, e, place)
		}
	}
}

// asked asks a server at a time, whose clock is off, with both ways and what it takes inside.
func asked(start uint64, off, there, inside, back int64) api.Sample {
	came := start + uint64(there+off)
	return chime.Measure(start, came, came+uint64(inside), start+uint64(there+inside+back))
}

func TestP13OffsetOfAServer(t *testing.T) {
	r := rand.New(rand.NewSource(7))
	for range 5000 {
		start, off := r.Uint64(), int64(r.Uint64())>>(2+r.Intn(60))
		there, inside, back := r.Int63()>>(3+r.Intn(60)), r.Int63()>>(3+r.Intn(60)), r.Int63()>>(3+r.Intn(60))
		if got := asked(start, off, there, inside, there); got.Offset != off {
			t.Errorf("P13: off by %d, both ways take %d: %+v", off, there, got)
		}
		// Shifting rounds down, also what is below 0.
		want := api.Sample{Offset: off + (there-back)>>1, Delay: there + back}
		if got := asked(start, off, there, inside, back); got != want {
			t.Errorf("P13: off by %d, there takes %d, back %d: %+v, want %+v", off, there, back, got, want)
		}
	}
}

func TestP13TrueTimeIsBetween(t *testing.T) {
	r := rand.New(rand.NewSource(23))
	for range 5000 {
		truth := r.Int63n(1<<60) - 1<<59
		l := make([]api.Tick, 1+r.Intn(api.MaxTicks))
		for i := range l {
			off := r.Int63n(1<<59) >> uint(r.Intn(60))
			l[i] = api.Tick{Mid: truth + off*int64(1-2*r.Intn(2)), Far: off + r.Int63n(1+off)}
		}
		if c, e := chime.Select(l); e == api.OK && (truth < c.Low || truth > c.High) {
			t.Errorf("P13: %d, which all of %v allow: %+v", truth, l, c)
		}
	}
}

// told is what a clock told, in the order of asking.
type told struct{ counter, time uint64 }

// checkNotBack holds what is told now against all that was told at the same or lesser counters.
func checkNotBack(t *testing.T, before []told, now told) {
	t.Helper()
	for _, b := range before {
		if b.counter <= now.counter && b.time > now.time {
			t.Errorf("P13: told %d at %d, then %d at %d", b.time, b.counter, now.time, now.counter)
		}
	}
}

// beyond is a counter with something added, or the greatest one.
func beyond(counter, by uint64) uint64 {
	if by > most-counter {
		return most
	}
	return counter + by
}

// disturb publishes something: what is taken is never at a counter below top, what is refused may be at any. It tells
// the counter that was published, or, if it was refused, the one that was published ahead of it.
func disturb(r *rand.Rand, c *chime.Clock, set, top uint64) uint64 {
	switch r.Intn(6) {
	case 0:
		c.Publish(wildNumber(r), wildNumber(r), 1001+r.Int63n(1000))
		return set
	case 1:
		if set > 0 {
			c.Publish(set-1, most, 1000)
		}
		return set
	}
	next := max(set, top)
	if r.Intn(4) != 0 {
		next = beyond(next, wildNumber(r)>>20)
	}
	c.Publish(next, wildNumber(r), r.Int63n(2001)-1000)
	return next
}

// askTwice asks by Now and by Serve, which must agree, at a counter and the next one.
func askTwice(t *testing.T, r *rand.Rand, c *chime.Clock, counter uint64) []told {
	t.Helper()
	next := beyond(counter, 1)
	time, e := c.Now(counter)
	times, f := c.Serve([]uint64{counter, next}, 1+r.Intn(api.Readers))
	if e != api.OK || f != api.OK || times[0] != time {
		t.Fatalf("P13: at %d: Now %d, %d, Serve %v, %d", counter, time, e, times, f)
	}
	return []told{{counter, time}, {next, times[1]}}
}

func TestP13NeverGoesBack(t *testing.T) {
	r := rand.New(rand.NewSource(35))
	for range 2000 {
		set, top := wildNumber(r), uint64(0)
		c := setTo(t, set, wildNumber(r), r.Int63n(2001)-1000)
		var before []told
		for range 40 {
			if r.Intn(3) == 0 {
				set = disturb(r, c, set, top)
				continue
			}
			counter := beyond(max(set, top), wildNumber(r)>>24)
			counter -= min(counter, uint64(r.Intn(3)))
			for _, now := range askTwice(t, r, c, counter) {
				checkNotBack(t, before, now)
				before = append(before, now)
				top = max(top, now.counter)
			}
		}
	}
}
