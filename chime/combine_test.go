package chime_test

import (
	"math/rand"
	"testing"

	"chime/api"
	"chime/chime"
)

func checkCombine(t *testing.T, l []api.Tick, want int64) {
	t.Helper()
	if n, e := chime.Combine(l); n != want || e != api.OK {
		t.Errorf("P10: Combine(%v) = %d, %d, want %d, 0", l, n, e, want)
	}
}

// combineBySteps is what P10 says of the clocks that are believed.
func combineBySteps(l []api.Tick, who []int) int64 {
	one, weights, products := rounded().SetInt64(1), rounded(), rounded()
	for _, i := range who {
		weight := rounded().Quo(one, rounded().Add(rounded().SetInt64(l[i].Far), one))
		weights = rounded().Add(weights, weight)
		products = rounded().Add(products, rounded().Mul(weight, rounded().SetInt64(l[i].Mid)))
	}
	n, _ := rounded().Quo(products, weights).Int64()
	return n
}

func TestP10Ordinary(t *testing.T) {
	for _, c := range []struct {
		pairs [][2]int64
		want  int64
	}{
		{[][2]int64{{7, 100}}, 7},
		{[][2]int64{{-7, 0}}, -7},
		{[][2]int64{{0, 100}, {90, 100}}, 45},
		{[][2]int64{{0, 3}, {3, 7}}, 1},                    // weights of a quarter and an eighth
		{[][2]int64{{0, 10}, {5, 10}, {100, 3}}, 2},        // the third is not believed
		{[][2]int64{{100, 3}, {0, 10}, {5, 10}}, 2},        // nor is the first
		{[][2]int64{{0, 0}, {0, 0}, {0, 1000}, {0, 5}}, 0}, // a Far of 0 weighs 1
		{[][2]int64{{4, 5}, {8, 11}, {0, 23}, {6, 5}}, 5},  // (4*4 + 8*2 + 0 + 6*4) / (4+2+1+4) = 56/11
		{[][2]int64{{-4, 5}, {-8, 11}, {0, 23}, {-6, 5}}, -5},
	} {
		checkCombine(t, ticks(c.pairs...), c.want)
	}
}

// What is behind the point goes, so both signs come nearer to 0.
func TestP10CutsOffTowardsZero(t *testing.T) {
	for _, c := range []struct{ one, other, want int64 }{
		{7, 8, 7}, {-7, -8, -7}, {0, 1, 0}, {0, -1, 0}, {-1, 2, 0}, {1, -2, 0}, {-2, -3, -2}, {1 << 40, 1<<40 + 1, 1 << 40}, {-1 << 40, -1<<40 - 1, -1 << 40},
	} {
		checkCombine(t, ticks([2]int64{c.one, 9}, [2]int64{c.other, 9}), c.want)
		checkCombine(t, ticks([2]int64{c.other, 9}, [2]int64{c.one, 9}), c.want)
	}
	checkCombine(t, ticks([2]int64{0, 3}, [2]int64{3, 3}, [2]int64{2, 3}), 1)
	checkCombine(t, ticks([2]int64{0, 9}, [2]int64{3, 9}, [2]int64{5, 9}), 2)
	checkCombine(t, ticks([2]int64{0, 9}, [2]int64{-3, 9}, [2]int64{-5, 9}), -2)
}

func TestP10FarthestClocks(t *testing.T) {
	const far = api.MaxFar
	for _, mid := range []int64{far, -far, 0} {
		for n := 1; n <= api.MaxTicks; n++ {
			l := make([]api.Tick, n)
			for i := range l {
				l[i] = api.Tick{Mid: mid, Far: far}
			}
			checkCombine(t, l, mid)
		}
	}
	// A Mid beyond what a float64 holds is rounded to one.
	checkCombine(t, ticks([2]int64{1<<53 + 1, 0}), 1<<53)
	checkCombine(t, ticks([2]int64{1<<53 + 3, 0}), 1<<53+4)
	checkCombine(t, ticks([2]int64{far - 1, 0}), far)
	checkCombine(t, ticks([2]int64{1 - far, 0}), -far)
}

func TestP10ErrorsOfSelect(t *testing.T) {
	refusesTicks(t, nil, api.ErrArg)
	refusesTicks(t, make([]api.Tick, api.MaxTicks+1), api.ErrArg)
	refusesTicks(t, ticks([2]int64{5, -1}), api.ErrRange)
	refusesTicks(t, ticks([2]int64{5, 1}, [2]int64{9, 1}), api.ErrFew)
	r := rand.New(rand.NewSource(30))
	for range 2000 {
		l := fewTicks(r)
		if _, e := chime.Select(l); e != api.OK {
			refusesTicks(t, l, e)
		}
	}
}

func TestP10StepByStep(t *testing.T) {
	r := rand.New(rand.NewSource(31))
	combined := 0
	for i := range 20000 {
		l := fewTicks(r)
		if i%2 == 0 {
			l = wideTicks(r)
		}
		c, e := selectByNumbers(l, edges(l))
		if e != api.OK {
			continue
		}
		checkCombine(t, l, combineBySteps(l, c.Who))
		combined++
	}
	if combined < 1000 {
		t.Errorf("P10: only %d combined", combined)
	}
}

// A Far just above 1 << 53 is rounded ahead of the 1 that is added, which tells the two orders apart.
func TestP10FarIsRoundedFirst(t *testing.T) {
	r := rand.New(rand.NewSource(32))
	for range 5000 {
		l := make([]api.Tick, 2+r.Intn(4))
		for i := range l {
			l[i] = api.Tick{Mid: r.Int63n(1 << 53), Far: 1<<53 + r.Int63n(8)}
		}
		c, e := selectByNumbers(l, edges(l))
		if e != api.OK {
			t.Fatalf("P9: Select(%v): %d", l, e)
		}
		checkCombine(t, l, combineBySteps(l, c.Who))
	}
}
