package clock

import (
	"math"
	"math/bits"
)

const (
	shift = 20
	unit  = 1 << shift // what a rate is held against: 1048576
)

// state is what the clock's numbers are at one moment.
type state struct {
	counter, time uint64
	rate          int64
}

// tell tells the time at a counter, at most the greatest there is.
func (s state) tell(counter uint64) uint64 {
	if counter <= s.counter {
		return s.time
	}
	time, carry := bits.Add64(s.time, stretched(counter-s.counter, s.rate), 0)
	if carry != 0 {
		return math.MaxUint64
	}
	return time
}

// stretched tells d plus d times the rate divided by unit as one product, d times unit plus rate: since that is above
// 0 also for a rate below 0, cutting off rounds down.
func stretched(d uint64, rate int64) uint64 {
	high, low := bits.Mul64(d, uint64(unit+rate))
	if high >= unit {
		return math.MaxUint64
	}
	return high<<(64-shift) | low>>shift
}
