package chime_test

import (
	"math"
	"math/big"
	"math/rand"
	"testing"

	"chime/api"
	"chime/chime"
)

func wrapped(n *big.Int) *big.Int {
	n = new(big.Int).And(n, new(big.Int).SetUint64(math.MaxUint64))
	if n.Bit(63) == 1 {
		n.Sub(n, new(big.Int).Lsh(big.NewInt(1), 64))
	}
	return n
}

func lessOf(a, b uint64) *big.Int {
	return wrapped(new(big.Int).Sub(new(big.Int).SetUint64(a), new(big.Int).SetUint64(b)))
}

// measuredByWhole measures by whole numbers of any size.
func measuredByWhole(t1, t2, t3, t4 uint64) api.Sample {
	sum := new(big.Int).Add(lessOf(t2, t1), lessOf(t3, t4))
	delay := wrapped(new(big.Int).Sub(lessOf(t4, t1), lessOf(t3, t2)))
	return api.Sample{Offset: sum.Rsh(sum, 1).Int64(), Delay: delay.Int64()}
}

func checkMeasure(t *testing.T, t1, t2, t3, t4 uint64, want api.Sample) {
	t.Helper()
	if got := chime.Measure(t1, t2, t3, t4); got != want {
		t.Errorf("P5: Measure(%d, %d, %d, %d) = %+v, want %+v", t1, t2, t3, t4, got, want)
	}
}

func TestP5Measure(t *testing.T) {
	const half = 1 << 63
	for _, c := range []struct {
		t1, t2, t3, t4 uint64
		offset, delay  int64
	}{
		{10, 25, 26, 15, 13, 4}, {0, 0, 0, 0, 0, 0}, {7, 7, 9, 9, 0, 0},
		{0, 1, 0, 0, 0, 1}, {1, 0, 0, 0, -1, -1}, {3, 0, 0, 0, -2, -3},
		{math.MaxUint64, 0, 0, math.MaxUint64, 1, 0}, {0, math.MaxUint64, math.MaxUint64, 0, -1, 0},
		{0, half - 1, half - 1, 0, math.MaxInt64, 0}, {0, half, half, 0, math.MinInt64, 0},
		{0, half, half - 1, 0, -1, 1}, {0, half - 1, half - 2, 0, math.MaxInt64 - 1, 1},
		{0, half + 1, half, 0, math.MinInt64, 1}, {0, 0, half, 0, math.MinInt64 / 2, math.MinInt64},
	} {
		checkMeasure(t, c.t1, c.t2, c.t3, c.t4, api.Sample{Offset: c.offset, Delay: c.delay})
	}
}

func TestP5MeasureAtEdges(t *testing.T) {
	edges := []uint64{
		0, 1, 2, 3, 1<<62 - 1, 1 << 62, 1<<63 - 2, 1<<63 - 1, 1 << 63, 1<<63 + 1,
		3 << 62, math.MaxUint64 - 2, math.MaxUint64 - 1, math.MaxUint64,
	}
	for _, t1 := range edges {
		for _, t2 := range edges {
			for _, t3 := range edges {
				for _, t4 := range edges {
					checkMeasure(t, t1, t2, t3, t4, measuredByWhole(t1, t2, t3, t4))
				}
			}
		}
	}
}

func TestP5MeasureSome(t *testing.T) {
	r := rand.New(rand.NewSource(6))
	for range 5000 {
		t1, t2, t3, t4 := r.Uint64(), r.Uint64(), r.Uint64(), r.Uint64()
		checkMeasure(t, t1, t2, t3, t4, measuredByWhole(t1, t2, t3, t4))
	}
}
