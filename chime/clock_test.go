package chime_test

import (
	"math"
	"math/big"
	"math/rand"
	"testing"

	"chime/api"
	"chime/chime"
)

const most = math.MaxUint64

// published is what a call of Publish is given.
type published struct {
	counter, time uint64
	rate          int64
}

func checkPublish(t *testing.T, c *chime.Clock, p published, want api.Errno) {
	t.Helper()
	if got := c.Publish(p.counter, p.time, p.rate); got != want {
		t.Errorf("P11: Publish(%d, %d, %d) = %d, want %d", p.counter, p.time, p.rate, got, want)
	}
}

func checkNow(t *testing.T, c *chime.Clock, counter, want uint64) {
	t.Helper()
	if got, e := c.Now(counter); got != want || e != api.OK {
		t.Errorf("P12: Now(%d) = %d, %d, want %d", counter, got, e, want)
	}
}

func checkUnknown(t *testing.T, why string, c *chime.Clock) {
	t.Helper()
	for _, counter := range []uint64{0, 1, 100, most} {
		if got, e := c.Now(counter); got != 0 || e != api.ErrFew {
			t.Errorf("P12: %s: Now(%d) = %d, %d, want 0, %d", why, counter, got, e, api.ErrFew)
		}
	}
}

// setTo is a clock that was set once.
func setTo(t *testing.T, counter, time uint64, rate int64) *chime.Clock {
	t.Helper()
	c := chime.NewClock()
	checkPublish(t, c, published{counter, time, rate}, api.OK)
	return c
}

// toldByWhole tells what a clock set so tells at a counter, by whole numbers of any size.
func toldByWhole(set published, counter uint64) uint64 {
	d := new(big.Int).SetUint64(counter)
	d.Sub(d, new(big.Int).SetUint64(set.counter))
	if d.Sign() < 0 {
		d.SetInt64(0)
	}
	more := new(big.Int).Mul(d, big.NewInt(set.rate))
	more.Div(more, big.NewInt(1048576)) // rounds down, since what divides is above 0
	sum := new(big.Int).SetUint64(set.time)
	sum.Add(sum, d).Add(sum, more)
	if !sum.IsUint64() {
		return most
	}
	return sum.Uint64()
}

func TestP11ClockThatKnowsNoTime(t *testing.T) {
	c, other := chime.NewClock(), chime.NewClock()
	checkUnknown(t, "nothing was published", c)
	checkPublish(t, c, published{100, 5000, 0}, api.OK)
	checkNow(t, c, 100, 5000)
	checkUnknown(t, "another clock was published", other)
}

// A counter or a time of 0 is one like others: also then something was published.
func TestP11PublishOfZeros(t *testing.T) {
	c := setTo(t, 0, 0, 0)
	checkNow(t, c, 0, 0)
	checkNow(t, c, 7, 7)
	checkPublish(t, c, published{7, 0, 0}, api.OK)
	checkNow(t, c, 7, 7)
	checkPublish(t, c, published{0, 100, 0}, api.ErrBack)
	checkNow(t, c, 8, 8)
}

func TestP11Rates(t *testing.T) {
	for _, rate := range []int64{-1000, -999, -1, 0, 1, 999, 1000} {
		c := setTo(t, 10, 20, rate)
		checkNow(t, c, 10+1048576, uint64(20+1048576+rate))
	}
	for _, rate := range []int64{-1001, 1001, -1048576, 1048576, math.MinInt64, math.MaxInt64, 1 << 32, -1 << 32, 1<<32 + 5} {
		c := chime.NewClock()
		checkPublish(t, c, published{100, 5000, rate}, api.ErrRange)
		checkUnknown(t, "a rate was refused", c)
		checkPublish(t, c, published{50, 7, 1}, api.OK)
		checkPublish(t, c, published{100, 5000, rate}, api.ErrRange)
		checkNow(t, c, 50, 7)
		checkNow(t, c, 150, 107)
	}
}

func TestP11CountersThatGoBack(t *testing.T) {
	c := setTo(t, 100, 5000, 0)
	for _, counter := range []uint64{99, 50, 1, 0} {
		checkPublish(t, c, published{counter, 9000, 1000}, api.ErrBack)
		checkPublish(t, c, published{counter, 0, -1000}, api.ErrBack)
		checkPublish(t, c, published{counter, most, 0}, api.ErrBack)
	}
	checkNow(t, c, 0, 5000)
	checkNow(t, c, 100+1048576, 5000+1048576)
	checkPublish(t, c, published{100, 6000, 0}, api.OK)
	checkNow(t, c, 100, 6000)
	checkPublish(t, c, published{most, 7000, 0}, api.OK)
	checkPublish(t, c, published{most - 1, 7000, 0}, api.ErrBack)
	checkPublish(t, c, published{most, most, 0}, api.OK)
	checkNow(t, c, 0, most)
}

// What was asked for is no bound: only what was published is.
func TestP11CountersBelowThoseAskedFor(t *testing.T) {
	c := setTo(t, 100, 5000, 0)
	checkNow(t, c, 9000, 13900)
	checkPublish(t, c, published{200, 0, 0}, api.OK)
	checkNow(t, c, 200, 5100)
}

func TestP11RangeGoesFirst(t *testing.T) {
	c := setTo(t, 100, 5000, 0)
	for _, rate := range []int64{-1001, 1001, math.MinInt64, math.MaxInt64} {
		checkPublish(t, c, published{99, 9000, rate}, api.ErrRange)
	}
	checkNow(t, c, 100, 5000)
	checkNow(t, c, 160, 5060)
}

func TestP11TimesThatGoBack(t *testing.T) {
	for _, p := range []struct {
		next published
		time uint64 // what the clock's time is then
	}{
		{published{200, 5099, 0}, 5100}, {published{200, 5100, 0}, 5100}, {published{200, 5101, 0}, 5101},
		{published{200, 0, 0}, 5100}, {published{200, most, 0}, most}, {published{200, 1 << 63, 0}, 1 << 63},
		{published{100, 4999, 0}, 5000}, {published{100, 5001, 0}, 5001}, {published{101, 5000, 0}, 5001},
		{published{200, 5000, 1000}, 5100}, {published{200, 5000, -1000}, 5100},
	} {
		c := setTo(t, 100, 5000, 0)
		checkPublish(t, c, p.next, api.OK)
		checkNow(t, c, 0, p.time)
		checkNow(t, c, p.next.counter, p.time)
		checkNow(t, c, p.next.counter+1048576, toldByWhole(published{p.next.counter, p.time, p.next.rate}, p.next.counter+1048576))
	}
}

// The rate ahead of the call counts for what the clock told, the new one for what it tells from now on.
func TestP11WhichRateCounts(t *testing.T) {
	const unit = 1048576
	c := setTo(t, 0, 0, 1000)
	checkPublish(t, c, published{unit, 0, -1000}, api.OK)
	checkNow(t, c, unit, unit+1000)
	checkNow(t, c, 2*unit, 2*unit)
	checkPublish(t, c, published{2 * unit, 2*unit + 1, 0}, api.OK)
	checkNow(t, c, 2*unit, 2*unit+1)
	checkNow(t, c, 3*unit, 3*unit+1)
	checkPublish(t, c, published{2 * unit, 5, 500}, api.OK)
	checkNow(t, c, 2*unit, 2*unit+1)
	checkNow(t, c, 3*unit, 3*unit+501)
}

func TestP11TimeAtTheEnd(t *testing.T) {
	c := setTo(t, 100, most-50, 1000)
	checkPublish(t, c, published{200, 3, 0}, api.OK)
	checkNow(t, c, 0, most)
	checkNow(t, c, 5000, most)
	checkPublish(t, c, published{most, most - 1, -1000}, api.OK)
	checkNow(t, c, most, most)
}

func TestP12Example(t *testing.T) {
	c := setTo(t, 100, 5000, 0)
	checkNow(t, c, 160, 5060)
	checkPublish(t, c, published{200, 5000, 1000}, api.OK)
	checkNow(t, c, 200, 5100)
	checkNow(t, c, 1048776, 5100+1048576+1000)
	checkNow(t, c, 150, 5100)
}

func TestP12CountersBelow(t *testing.T) {
	for _, rate := range []int64{-1000, 0, 1000} {
		c := setTo(t, 1<<63, 77, rate)
		for _, counter := range []uint64{0, 1, 1<<63 - 1, 1 << 63} {
			checkNow(t, c, counter, 77)
		}
	}
}

func TestP12RoundedDown(t *testing.T) {
	const unit = 1048576
	for _, p := range []struct {
		rate    int64
		d, want uint64
	}{
		{1, unit - 1, unit - 1}, {1, unit, unit + 1}, {1, unit + 1, unit + 2}, {1, 2*unit - 1, 2 * unit}, {1, 2 * unit, 2*unit + 2},
		{-1, 1, 0}, {-1, 2, 1}, {-1, unit, unit - 1}, {-1, unit + 1, unit - 1}, {-1, unit + 2, unit}, {-1, 2 * unit, 2*unit - 2},
		{1000, 1, 1}, {1000, 1048, 1048}, {1000, 1049, 1050}, {-1000, 1, 0}, {-1000, 1048, 1047}, {-1000, 1049, 1047},
		{-1000, unit, unit - 1000}, {-1000, unit + 1, unit - 1000}, {0, unit + 1, unit + 1},
	} {
		checkNow(t, setTo(t, 40, 300, p.rate), 40+p.d, 300+p.want)
	}
}

func TestP12AtMost(t *testing.T) {
	c := setTo(t, 10, most-10, 0)
	checkNow(t, c, 19, most-1)
	checkNow(t, c, 20, most)
	checkNow(t, c, 21, most)
	checkNow(t, c, most, most)
	c = setTo(t, 0, 0, 0)
	checkNow(t, c, most, most)
	checkNow(t, c, most-1, most-1)
	c = setTo(t, 0, 1, 0)
	checkNow(t, c, most-1, most)
	checkNow(t, c, most, most)
	c = setTo(t, 0, 0, 1)
	checkNow(t, c, 1<<63, 1<<63+1<<43)
	checkNow(t, c, most, most)
	c = setTo(t, 0, 0, -1)
	checkNow(t, c, most, most-1<<44)
	c = setTo(t, 0, 1<<44, -1)
	checkNow(t, c, most-1, most-1)
	checkNow(t, c, most, most)
	c = setTo(t, 0, most, -1000)
	checkNow(t, c, most, most)
}

// edgeNumbers are counters and times at and beside those where something turns over.
func edgeNumbers() []uint64 {
	l := []uint64{0, 1, 2, 1048, 1049, 18429274668000000, 18446744073709551}
	for _, x := range []uint64{1 << 20, 1 << 32, 1 << 44, 1 << 54, 1 << 63} {
		l = append(l, x-1, x, x+1)
	}
	return append(l, most-1<<54, most-1<<44, most-1<<20, most-1, most)
}

func TestP12AtEdges(t *testing.T) {
	for _, rate := range []int64{-1000, -999, -1, 0, 1, 999, 1000} {
		for _, set := range edgeNumbers() {
			for _, time := range edgeNumbers() {
				c := setTo(t, set, time, rate)
				for _, counter := range edgeNumbers() {
					checkNow(t, c, counter, toldByWhole(published{set, time, rate}, counter))
				}
			}
		}
	}
}

// wildNumber is as often small as great.
func wildNumber(r *rand.Rand) uint64 {
	return r.Uint64() >> r.Intn(64)
}

func TestP12Some(t *testing.T) {
	r := rand.New(rand.NewSource(30))
	for range 50000 {
		set := published{wildNumber(r), wildNumber(r), r.Int63n(2001) - 1000}
		counter := wildNumber(r)
		if r.Intn(2) == 0 {
			counter = set.counter + wildNumber(r)
		}
		checkNow(t, setTo(t, set.counter, set.time, set.rate), counter, toldByWhole(set, counter))
	}
}

// publishedByWords does to what a clock is set to what the document says of Publish.
func publishedByWords(set *published, next published) api.Errno {
	switch {
	case next.rate < -api.MaxRate || next.rate > api.MaxRate:
		return api.ErrRange
	case next.counter < set.counter:
		return api.ErrBack
	}
	next.time = max(next.time, toldByWhole(*set, next.counter))
	*set = next
	return api.OK
}

// wildPublished is mostly somewhat beyond what was published, at times ahead of it, or anything.
func wildPublished(r *rand.Rand, set published) published {
	next := published{wildNumber(r), wildNumber(r), r.Int63n(2003) - 1001}
	if r.Intn(8) != 0 {
		next.counter = set.counter + wildNumber(r)>>24 - uint64(r.Intn(8))
		next.time = toldByWhole(set, next.counter) + uint64(r.Intn(2000)) - 1000
	}
	return next
}

func TestP11Some(t *testing.T) {
	r := rand.New(rand.NewSource(31))
	count := map[api.Errno]int{}
	for range 1000 {
		set := published{wildNumber(r), wildNumber(r), r.Int63n(2001) - 1000}
		c := setTo(t, set.counter, set.time, set.rate)
		for range 30 {
			next := wildPublished(r, set)
			e := publishedByWords(&set, next)
			count[e]++
			checkPublish(t, c, next, e)
			for _, counter := range []uint64{set.counter, set.counter + wildNumber(r), wildNumber(r)} {
				checkNow(t, c, counter, toldByWhole(set, counter))
			}
		}
	}
	for _, e := range []api.Errno{api.OK, api.ErrRange, api.ErrBack} {
		if count[e] < 15 {
			t.Errorf("P11: only %d calls answer %d", count[e], e)
		}
	}
}
