package chime_test

import (
	"math"
	"math/rand"
	"slices"
	"testing"

	"chime/api"
	"chime/chime"
)

// ticks makes clocks of pairs of a Mid and a Far.
func ticks(pairs ...[2]int64) []api.Tick {
	l := make([]api.Tick, len(pairs))
	for i, pair := range pairs {
		l[i] = api.Tick{Mid: pair[0], Far: pair[1]}
	}
	return l
}

func sameChoice(a, b api.Choice) bool {
	return a.Low == b.Low && a.High == b.High && slices.Equal(a.Who, b.Who)
}

func checkSelect(t *testing.T, l []api.Tick, want api.Choice, errno api.Errno) {
	t.Helper()
	got, e := chime.Select(l)
	if !sameChoice(got, want) || e != errno || e != api.OK && got.Who != nil {
		t.Errorf("P9: Select(%v) = %+v, %d, want %+v, %d", l, got, e, want, errno)
	}
}

func refusesTicks(t *testing.T, l []api.Tick, errno api.Errno) {
	t.Helper()
	checkSelect(t, l, api.Choice{}, errno)
	if n, e := chime.Combine(l); n != 0 || e != errno {
		t.Errorf("P10: Combine(%v) = %d, %d, want 0, %d", l, n, e, errno)
	}
}

// allowedBy tells how many clocks allow a number.
func allowedBy(l []api.Tick, number int64) int {
	n := 0
	for _, tick := range l {
		if number >= tick.Mid-tick.Far && number <= tick.Mid+tick.Far {
			n++
		}
	}
	return n
}

// selectByNumbers is what P9 says, where only these numbers (rising) can be the least or the greatest.
func selectByNumbers(l []api.Tick, numbers []int64) (api.Choice, api.Errno) {
	n := len(l)
	for f := 0; 2*f < n; f++ {
		enough := func(x int64) bool { return allowedBy(l, x) >= n-f }
		first := slices.IndexFunc(numbers, enough)
		if first < 0 {
			continue
		}
		last := len(numbers) - 1
		for !enough(numbers[last]) {
			last--
		}
		c := api.Choice{Low: numbers[first], High: numbers[last]}
		beyond := 0
		for i, tick := range l {
			if tick.Mid < c.Low || tick.Mid > c.High {
				beyond++
			} else {
				c.Who = append(c.Who, i)
			}
		}
		if beyond <= f {
			return c, api.OK
		}
	}
	return api.Choice{}, api.ErrFew
}

// edges are the ends of what clocks allow, and their neighbours.
func edges(l []api.Tick) []int64 {
	var all []int64
	for _, tick := range l {
		for x := int64(-1); x <= 1; x++ {
			all = append(all, tick.Mid-tick.Far+x, tick.Mid+tick.Far+x)
		}
	}
	slices.Sort(all)
	return slices.Compact(all)
}

// fewTicks makes clocks so near each other that all numbers can be gone through.
func fewTicks(r *rand.Rand) []api.Tick {
	l := make([]api.Tick, 1+r.Intn(9))
	wide := 1 + r.Int63n(20)
	for i := range l {
		l[i] = api.Tick{Mid: r.Int63n(41) - 20, Far: r.Int63n(wide)}
	}
	return l
}

// wideTicks makes up to MaxTicks clocks of which some agree, at any size.
func wideTicks(r *rand.Rand) []api.Tick {
	l := make([]api.Tick, 1+r.Intn(api.MaxTicks))
	narrow, fault := uint(r.Intn(60)), 1+r.Intn(5)
	centre := r.Int63n(1<<60) - 1<<59
	for i := range l {
		l[i] = api.Tick{Mid: centre + (r.Int63n(1<<60)-1<<59)>>narrow, Far: r.Int63n(1<<61) >> narrow}
		if r.Intn(fault) == 0 {
			l[i] = api.Tick{Mid: r.Int63n(1<<62+1) - 1<<61, Far: r.Int63n(1<<61) >> uint(r.Intn(61))}
		}
	}
	return l
}

func TestP9HowManyClocks(t *testing.T) {
	refusesTicks(t, nil, api.ErrArg)
	refusesTicks(t, []api.Tick{}, api.ErrArg)
	all := make([]int, 0, api.MaxTicks)
	for n := 1; n <= api.MaxTicks; n++ {
		all = append(all, n-1)
		l := make([]api.Tick, n)
		for i := range l {
			l[i] = api.Tick{Mid: int64(i), Far: 50}
		}
		checkSelect(t, l, api.Choice{Low: int64(n) - 51, High: 50, Who: all}, api.OK)
	}
	refusesTicks(t, make([]api.Tick, api.MaxTicks+1), api.ErrArg)
	refusesTicks(t, make([]api.Tick, 1000), api.ErrArg)
}

func TestP9Ranges(t *testing.T) {
	const far = api.MaxFar
	for _, c := range []struct {
		mid, far  int64
		low, high int64
	}{
		{far, 0, far, far}, {-far, 0, -far, -far}, {0, far, -far, far}, {0, 0, 0, 0},
		{far, far, 0, 2 * far}, {-far, far, -2 * far, 0}, {far - 1, far - 1, 0, 2*far - 2},
	} {
		checkSelect(t, ticks([2]int64{c.mid, c.far}), api.Choice{Low: c.low, High: c.high, Who: []int{0}}, api.OK)
	}
	for _, wrong := range [][2]int64{
		{far + 1, 0}, {-far - 1, 0}, {0, far + 1}, {0, -1}, {far, -far},
		{math.MaxInt64, 0}, {math.MinInt64, 0}, {0, math.MaxInt64}, {0, math.MinInt64}, {math.MinInt64, math.MinInt64},
	} {
		refusesTicks(t, ticks(wrong), api.ErrRange)
		for place := range 5 {
			l := make([]api.Tick, 5)
			l[place] = ticks(wrong)[0]
			refusesTicks(t, l, api.ErrRange)
		}
	}
}

func TestP9FarthestClocksTogether(t *testing.T) {
	const far = api.MaxFar
	below, above := [2]int64{-far, far}, [2]int64{far, far}
	refusesTicks(t, ticks(below, above), api.ErrFew)
	refusesTicks(t, ticks(below, above, [2]int64{0, 0}), api.ErrFew)
	checkSelect(t, ticks(below, above, above), api.Choice{Low: 0, High: 2 * far, Who: []int{1, 2}}, api.OK)
	checkSelect(t, ticks(below, above, below), api.Choice{Low: -2 * far, High: 0, Who: []int{0, 2}}, api.OK)
	checkSelect(t, ticks(below, above, [2]int64{0, far}), api.Choice{Low: -far, High: far, Who: []int{0, 1, 2}}, api.OK)
}

func TestP9FirstErrorIsTold(t *testing.T) {
	l := make([]api.Tick, api.MaxTicks+1)
	l[0].Far = -1
	refusesTicks(t, l, api.ErrArg)
	refusesTicks(t, ticks([2]int64{0, 1}, [2]int64{100, -1}), api.ErrRange)
	refusesTicks(t, ticks([2]int64{0, 1}, [2]int64{api.MaxFar + 1, 1}), api.ErrRange)
}

func TestP9Choices(t *testing.T) {
	for _, c := range []struct {
		pairs     [][2]int64
		low, high int64
		who       []int
	}{
		{[][2]int64{{0, 10}, {5, 10}, {100, 3}}, -5, 10, []int{0, 1}},
		{[][2]int64{{100, 3}, {0, 10}, {5, 10}}, -5, 10, []int{1, 2}},
		{[][2]int64{{5, 3}}, 2, 8, []int{0}},
		// Both ends count: one number that two clocks allow, which is the Mid of both or of one alone.
		{[][2]int64{{7, 0}, {7, 0}}, 7, 7, []int{0, 1}},
		{[][2]int64{{0, 1}, {1, 1}}, 0, 1, []int{0, 1}},
		{[][2]int64{{0, 2}, {4, 2}, {2, 0}, {2, 2}, {2, 9}}, 0, 4, []int{0, 1, 2, 3, 4}},
		// f = 0 has numbers, but Mids beyond them; f = 1 takes in more numbers, and as many Mids beyond as it may.
		{[][2]int64{{10, 10}, {28, 10}, {29, 10}}, 18, 38, []int{1, 2}},
		{[][2]int64{{0, 9}, {5, 1}, {3, 6}}, -3, 9, []int{0, 1, 2}},
		// One clock beyond: f = 1 does, and f = 2 would tell more numbers.
		{[][2]int64{{0, 5}, {1, 5}, {2, 5}, {3, 5}, {90, 1}}, -2, 5, []int{0, 1, 2, 3}},
		{[][2]int64{{0, 5}, {1, 5}, {2, 5}, {80, 1}, {90, 1}}, -3, 5, []int{0, 1, 2}},
		// Two heaps: what lies between them is allowed by fewer, but a Mid there is neither below nor above.
		{[][2]int64{{0, 1}, {0, 1}, {10, 1}, {10, 1}, {5, 100}}, -1, 11, []int{0, 1, 2, 3, 4}},
		{[][2]int64{{0, 2}, {5, 0}, {0, 2}, {10, 2}, {10, 2}, {5, 100}, {6, 100}}, -2, 12, []int{0, 1, 2, 3, 4, 5, 6}},
		// Who counts is asked of its Mid, not of what it allows.
		{[][2]int64{{0, 9}, {4, 9}, {-60, 58}, {2, 9}}, -7, 9, []int{0, 1, 3}},
	} {
		checkSelect(t, ticks(c.pairs...), api.Choice{Low: c.low, High: c.high, Who: c.who}, api.OK)
	}
}

func TestP9TooFewAgree(t *testing.T) {
	for _, pairs := range [][][2]int64{
		{{0, 1}, {100, 1}},
		{{0, 1}, {2, 1}},
		{{10, 10}, {28, 10}},
		{{0, 1}, {100, 1}, {200, 1}},
		{{0, 1}, {1, 1}, {50, 1}, {51, 1}},                  // f = 2 would do, but 4 is not below 4
		{{0, 9}, {1, 9}, {50, 1}, {60, 1}},                  // so too with one heap
		{{0, 1}, {1, 1}, {2, 1}, {50, 1}, {51, 1}},          // three allow 1, but four Mids are not 1
		{{0, 5}, {1, 5}, {50, 1}, {60, 1}, {70, 1}},         // two of five
		{{0, 9}, {1, 9}, {2, 9}, {50, 1}, {60, 1}, {70, 1}}, // three of six
	} {
		refusesTicks(t, ticks(pairs...), api.ErrFew)
	}
}

// howItWent counts answers, so that a test does not pass of which all inputs go one way.
type howItWent struct{ chosen, few, partly int }

func (h *howItWent) count(l []api.Tick, c api.Choice, e api.Errno) {
	switch {
	case e != api.OK:
		h.few++
	case len(c.Who) < len(l):
		h.partly++
	default:
		h.chosen++
	}
}

func (h *howItWent) check(t *testing.T) {
	t.Helper()
	if min(h.chosen, h.few, h.partly) < 100 {
		t.Errorf("P9: too few of one kind to tell: %+v", *h)
	}
}

// checkMany holds Select against selectByNumbers, for clocks and the numbers that are to be gone through for them.
func checkMany(t *testing.T, times int, clocks func() []api.Tick, numbers func([]api.Tick) []int64) {
	t.Helper()
	var went howItWent
	for range times {
		l := clocks()
		want, e := selectByNumbers(l, numbers(l))
		checkSelect(t, l, want, e)
		went.count(l, want, e)
	}
	went.check(t)
}

func TestP9EveryNumberGoneThrough(t *testing.T) {
	r := rand.New(rand.NewSource(20))
	var numbers []int64
	for x := int64(-50); x <= 50; x++ {
		numbers = append(numbers, x)
	}
	checkMany(t, 20000, func() []api.Tick { return fewTicks(r) }, func([]api.Tick) []int64 { return numbers })
}

// Clocks moved and stretched together are chosen as they were, so great numbers can be held against small ones.
func TestP9MovedAndStretched(t *testing.T) {
	r := rand.New(rand.NewSource(21))
	for range 5000 {
		l := fewTicks(r)
		times := int64(1) + r.Int63n(1<<55)
		move := r.Int63n(1<<60) - 1<<59
		want, e := chime.Select(l)
		if e == api.OK {
			want.Low, want.High = want.Low*times+move, want.High*times+move
		}
		for i := range l {
			l[i] = api.Tick{Mid: l[i].Mid*times + move, Far: l[i].Far * times}
		}
		checkSelect(t, l, want, e)
	}
}

func TestP9ManyClocks(t *testing.T) {
	r := rand.New(rand.NewSource(22))
	checkMany(t, 5000, func() []api.Tick { return wideTicks(r) }, edges)
}
