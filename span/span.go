// Package span tells how far times lie from each other.
package span

import "chime/api"

// Difference tells a less b, the shorter way round.
func Difference(a, b uint64) int64 {
	return int64(a - b)
}

// Ahead tells whether a is the earlier one.
func Ahead(a, b uint64) bool {
	return Difference(a, b) < 0
}

// Measure tells offset and delay of a request and its answer.
func Measure(t1, t2, t3, t4 uint64) api.Sample {
	return api.Sample{
		Offset: middle(Difference(t2, t1), Difference(t3, t4)),
		Delay:  Difference(t4-t1, t3-t2),
	}
}

// middle halves ahead of adding, since d + e may not fit; what both halves dropped is one whole.
func middle(d, e int64) int64 {
	return d>>1 + e>>1 + d&e&1
}
