package chime_test

import (
	"fmt"
	"math"
	"math/big"
	"math/rand"
	"testing"

	"chime/api"
	"chime/chime"
)

// rounded is a number with the bits of a float64, so that each step rounds as one.
func rounded() *big.Float { return new(big.Float).SetPrec(53) }

// bestBySteps is what P8 says of a list of all samples, oldest first.
func bestBySteps(all []api.Sample) (api.Sample, float64) {
	last := all[max(0, len(all)-8):]
	best := len(last) - 1
	for i := best; i >= 0; i-- {
		if last[i].Delay < last[best].Delay {
			best = i
		}
	}
	if len(last) == 1 {
		return last[0], 0
	}
	sum := rounded()
	for i := len(last) - 1; i >= 0; i-- {
		if i == best {
			continue
		}
		off := lessOf(uint64(last[i].Offset), uint64(last[best].Offset))
		x := rounded().Quo(rounded().SetInt(off), rounded().SetInt64(1<<32))
		sum = rounded().Add(sum, rounded().Mul(x, x))
	}
	mean, _ := rounded().Quo(sum, rounded().SetInt64(int64(len(last)-1))).Float64()
	return last[best], math.Sqrt(mean)
}

// samples makes some of pairs of an offset and a delay.
func samples(pairs ...[2]int64) []api.Sample {
	l := make([]api.Sample, len(pairs))
	for i, pair := range pairs {
		l[i] = api.Sample{Offset: pair[0], Delay: pair[1]}
	}
	return l
}

// checkHistory has one peer take all of these, and asks for the best behind each.
func checkHistory(t *testing.T, all []api.Sample) {
	t.Helper()
	p := chime.NewPeer()
	for i, s := range all {
		give(t, p, s)
		best, differ := bestBySteps(all[:i+1])
		checkBest(t, fmt.Sprintf("of %+v", all[:i+1]), p, best, differ, api.OK)
	}
}

func TestP8NoSamples(t *testing.T) {
	p := chime.NewPeer()
	checkBest(t, "new", p, api.Sample{}, 0, api.ErrFew)
	p.Ask(1)
	checkBest(t, "asked", p, api.Sample{}, 0, api.ErrFew)
	p.Take(formed(t, answering(2, 2, 2)), 2)
	checkBest(t, "asked, and answered wrongly", p, api.Sample{}, 0, api.ErrFew)
}

func TestP8OneSample(t *testing.T) {
	for _, s := range []api.Sample{{}, {Offset: 5, Delay: 7}, {Offset: math.MinInt64}, {Offset: math.MaxInt64}, {Delay: math.MaxInt64 - 1}, {Offset: -3, Delay: -9}} {
		p := chime.NewPeer()
		give(t, p, s)
		checkBest(t, "one", p, s, 0, api.OK)
		checkBest(t, "one, asked for again", p, s, 0, api.OK)
	}
}

func TestP8LeastDelay(t *testing.T) {
	const second = 1 << 32
	for _, c := range []struct {
		pairs  [][2]int64
		best   int
		differ float64
	}{
		{[][2]int64{{0, 10}, {second, 20}}, 0, 1},
		{[][2]int64{{0, 20}, {2 * second, 10}}, 1, 2},
		{[][2]int64{{0, 10}, {3 * second, 10}}, 1, 3},
		{[][2]int64{{7, 10}, {7, 10}}, 1, 0},
		{[][2]int64{{0, 0}, {second, -1}}, 1, 1},
		{[][2]int64{{0, -1}, {second, 0}}, 0, 1},
		{[][2]int64{{0, math.MinInt64}, {second, 1 << 60}}, 0, 1},
		{[][2]int64{{0, 10}, {second, 10}, {3 * second, 20}}, 1, math.Sqrt(2.5)},
		{[][2]int64{{0, 10}, {second, 20}, {3 * second, 10}}, 2, math.Sqrt(6.5)},
		{[][2]int64{{0, 10}, {0, 20}, {-second / 2, 30}}, 0, math.Sqrt(0.125)},
	} {
		p, all := chime.NewPeer(), samples(c.pairs...)
		for _, s := range all {
			give(t, p, s)
		}
		checkBest(t, fmt.Sprintf("of %+v", all), p, all[c.best], c.differ, api.OK)
	}
}

func TestP8LastStagesCount(t *testing.T) {
	const second = 1 << 32
	p := chime.NewPeer()
	give(t, p, api.Sample{Offset: 8 * second, Delay: 1})
	for i := range int64(7) {
		give(t, p, api.Sample{Offset: 0, Delay: 10 + i})
		checkBest(t, fmt.Sprintf("%d samples", i+2), p, api.Sample{Offset: 8 * second, Delay: 1}, 8, api.OK)
	}
	give(t, p, api.Sample{Offset: 0, Delay: 99})
	checkBest(t, "the first counts no more", p, api.Sample{Offset: 0, Delay: 10}, 0, api.OK)
	for _, least := range []int64{11, 12, 13, 14, 15, 16, 99, 100, 100} {
		give(t, p, api.Sample{Offset: 0, Delay: 100})
		checkBest(t, "one more counts no more", p, api.Sample{Offset: 0, Delay: least}, 0, api.OK)
	}
}

func TestP8OffsetsGoRound(t *testing.T) {
	part := 1.0 / (1 << 32)
	for _, c := range []struct {
		best, other int64
		differ      float64
	}{
		{math.MinInt64, math.MaxInt64, part}, {math.MaxInt64, math.MinInt64, part},
		{0, math.MinInt64, 1 << 31}, {math.MinInt64, 0, 1 << 31},
		{-1 << 62, 1 << 62, 1 << 31}, {1 << 62, -1<<62 - 3, (1<<63 - 3) * part},
		{0, math.MaxInt64, 1 << 31}, {0, 1, part}, {0, -1, part},
	} {
		p := chime.NewPeer()
		give(t, p, api.Sample{Offset: c.other, Delay: 0})
		give(t, p, api.Sample{Offset: c.best, Delay: 0})
		checkBest(t, fmt.Sprintf("%+v", c), p, api.Sample{Offset: c.best}, c.differ, api.OK)
	}
}

// Large and small squares together: the small ones are lost or kept by the order in which they are added.
func TestP8AddsFromTheLastBack(t *testing.T) {
	const large, small = 1 << 60, 1<<33 + 1<<32
	p := chime.NewPeer()
	give(t, p, api.Sample{Offset: large, Delay: 9})
	for range 6 {
		give(t, p, api.Sample{Offset: small, Delay: 9})
	}
	give(t, p, api.Sample{Offset: 0, Delay: 1})
	// Together the small squares are 54, which beside 1 << 56 are rounded to 48; one by one they would be six times 16.
	checkBest(t, "the large one is the oldest", p, api.Sample{Delay: 1}, math.Sqrt((1<<56+48)/7.0), api.OK)
	checkHistory(t, samples([][2]int64{{0, 1}, {small, 9}, {small, 9}, {large, 9}, {small, 9}, {small, 9}}...))
}

func TestP8Histories(t *testing.T) {
	r := rand.New(rand.NewSource(10))
	for range 400 {
		narrow := uint(r.Intn(50))
		all := make([]api.Sample, 20)
		for i := range all {
			all[i] = api.Sample{Offset: int64(r.Uint64())>>2>>narrow + 1<<61, Delay: r.Int63n(4) - 1}
		}
		checkHistory(t, all)
	}
	for range 400 {
		all := make([]api.Sample, 20)
		for i := range all {
			all[i] = api.Sample{Offset: int64(r.Uint64()) >> uint(r.Intn(64)) / 4, Delay: int64(r.Uint64()) >> uint(4+r.Intn(50))}
		}
		checkHistory(t, all)
	}
}

// Best asked for in between changes nothing.
func TestP8BestIsToldAgain(t *testing.T) {
	r := rand.New(rand.NewSource(11))
	asked, silent := chime.NewPeer(), chime.NewPeer()
	for range 100 {
		s := api.Sample{Offset: r.Int63n(1 << 40), Delay: r.Int63n(8)}
		give(t, asked, s)
		give(t, silent, s)
		asked.Best()
		asked.Best()
	}
	s, d, e := silent.Best()
	checkBest(t, "asked for in between", asked, s, d, e)
}
