package chime_test

import (
	"math"
	"math/rand"
	"slices"
	"testing"

	"chime/api"
	"chime/chime"
)

func checkServe(t *testing.T, c *chime.Clock, counters []uint64, readers int, want []uint64, errno api.Errno) {
	t.Helper()
	got, e := c.Serve(counters, readers)
	if !slices.Equal(got, want) || e != errno || e != api.OK && got != nil {
		t.Errorf("P12: Serve(%v, %d) = %v, %d, want %v, %d", counters, readers, got, e, want, errno)
	}
}

// wildCounters are some at which a clock set to this may be asked.
func wildCounters(r *rand.Rand, set uint64, many int) []uint64 {
	l := make([]uint64, many)
	for i := range l {
		l[i] = set + wildNumber(r) - uint64(r.Intn(100))
	}
	return l
}

func TestP12ServeExample(t *testing.T) {
	c := setTo(t, 100, 5000, 0)
	checkServe(t, c, []uint64{160, 100, 0, most, 160}, 2, []uint64{5060, 5000, 5000, most, 5060}, api.OK)
	checkPublish(t, c, published{200, 5000, 1000}, api.OK)
	checkServe(t, c, []uint64{150, 1048776, 200}, 3, []uint64{5100, 5100 + 1048576 + 1000, 5100}, api.OK)
}

func TestP12ServeEveryCount(t *testing.T) {
	r := rand.New(rand.NewSource(32))
	for many := range api.MaxReads + 1 {
		for readers := 1; readers <= api.Readers; readers++ {
			set := published{wildNumber(r), wildNumber(r), r.Int63n(2001) - 1000}
			c := setTo(t, set.counter, set.time, set.rate)
			counters := wildCounters(r, set.counter, many)
			want := make([]uint64, many)
			for i, counter := range counters {
				want[i] = toldByWhole(set, counter)
				checkNow(t, c, counter, want[i])
			}
			checkServe(t, c, counters, readers, want, api.OK)
		}
	}
}

func TestP12ServeNoCounters(t *testing.T) {
	c := setTo(t, 100, 5000, 0)
	for _, none := range [][]uint64{nil, {}, make([]uint64, 0, 100)} {
		checkServe(t, c, none, 1, nil, api.OK)
		checkServe(t, c, none, api.Readers, nil, api.OK)
		checkServe(t, c, none, 0, nil, api.ErrArg)
		checkServe(t, chime.NewClock(), none, 1, nil, api.ErrFew)
	}
}

func TestP12ServeWrongArguments(t *testing.T) {
	c := setTo(t, 100, 5000, 0)
	for _, readers := range []int{0, -1, 9, 10, 64, 1 << 32, 1<<32 + 1, math.MinInt, math.MaxInt} {
		checkServe(t, c, []uint64{100, 101}, readers, nil, api.ErrArg)
		checkServe(t, c, make([]uint64, 65), readers, nil, api.ErrArg)
		checkServe(t, chime.NewClock(), []uint64{100}, readers, nil, api.ErrArg)
	}
	for _, many := range []int{65, 66, 128, 1000} {
		for readers := 1; readers <= api.Readers; readers++ {
			checkServe(t, c, make([]uint64, many), readers, nil, api.ErrArg)
			checkServe(t, chime.NewClock(), make([]uint64, many), readers, nil, api.ErrArg)
		}
	}
	checkNow(t, c, 160, 5060)
}

func TestP12ServeOfOneThatKnowsNoTime(t *testing.T) {
	c := chime.NewClock()
	for readers := 1; readers <= api.Readers; readers++ {
		checkServe(t, c, []uint64{0, 1, 2}, readers, nil, api.ErrFew)
		checkServe(t, c, make([]uint64, 64), readers, nil, api.ErrFew)
	}
	checkUnknown(t, "Serve was refused", c)
}

func TestP2ServeWritesNothing(t *testing.T) {
	r := rand.New(rand.NewSource(33))
	c := setTo(t, 100, 5000, 7)
	for _, many := range []int{0, 1, 7, 8, 9, 63, 64, 65} {
		for readers := 0; readers <= api.Readers+1; readers++ {
			whole := slices.Repeat([]uint64{0xa5a5}, 80+many+80)
			copy(whole[80:], wildCounters(r, 100, many))
			before := slices.Clone(whole)
			c.Serve(whole[80:80+many], readers)
			chime.NewClock().Serve(whole[80:80+many], readers)
			if !slices.Equal(whole, before) {
				t.Errorf("P2: Serve of %d by %d wrote: %v", many, readers, whole)
			}
		}
	}
}

func TestP2ServeGivesNewRoom(t *testing.T) {
	r := rand.New(rand.NewSource(34))
	c := setTo(t, 100, 5000, 7)
	for many := range api.MaxReads + 1 {
		counters := wildCounters(r, 100, many)
		kept := slices.Clone(counters)
		first, _ := c.Serve(counters, 3)
		second, _ := c.Serve(counters, 3)
		want := slices.Clone(second)
		for i := range first[:cap(first)] {
			first[:cap(first)][i] = 99
		}
		if !slices.Equal(counters, kept) || !slices.Equal(second, want) {
			t.Errorf("P2: another answer was written into: counters %v, want %v; times %v, want %v", counters, kept, second, want)
		}
		checkServe(t, c, counters, 3, want, api.OK)
	}
}

func TestP2ServeKeepsNoCounters(t *testing.T) {
	c := setTo(t, 100, 5000, 0)
	counters := []uint64{160, 170, 180}
	got, _ := c.Serve(counters, 2)
	for i := range counters {
		counters[i] = 0
	}
	if want := []uint64{5060, 5070, 5080}; !slices.Equal(got, want) {
		t.Errorf("P2: the counters were written into: %v, want %v", got, want)
	}
	checkServe(t, c, counters, 2, []uint64{5000, 5000, 5000}, api.OK)
}
