// Package agree tells which of many clocks can be believed, and what these say together.
package agree

import (
	"math"

	"chime/api"
)

// Select tells on what enough clocks agree, with as few as may be that are wrong.
func Select(ticks []api.Tick) (api.Choice, api.Errno) {
	if errno := check(ticks); errno != api.OK {
		return api.Choice{}, errno
	}
	for wrong := 0; 2*wrong < len(ticks); wrong++ {
		low, high := allowed(ticks, len(ticks)-wrong)
		who := between(ticks, low, high)
		if len(ticks)-len(who) <= wrong {
			return api.Choice{Low: low, High: high, Who: who}, api.OK
		}
	}
	return api.Choice{}, api.ErrFew
}

func check(ticks []api.Tick) api.Errno {
	if len(ticks) == 0 || len(ticks) > api.MaxTicks {
		return api.ErrArg
	}
	for _, tick := range ticks {
		if tick.Mid < -api.MaxFar || tick.Mid > api.MaxFar || tick.Far < 0 || tick.Far > api.MaxFar {
			return api.ErrRange
		}
	}
	return api.OK
}

// allowed tells the least and the greatest number that enough clocks allow: going up, more allow a number than the one
// below it only where a clock's numbers begin, so the least is such a beginning, and the greatest likewise an end. If
// there is no such number, the least is above the greatest, and no Mid is between them.
func allowed(ticks []api.Tick, enough int) (low, high int64) {
	low, high = math.MaxInt64, math.MinInt64
	for _, tick := range ticks {
		if begin := tick.Mid - tick.Far; allowing(ticks, begin) >= enough {
			low = min(low, begin)
		}
		if end := tick.Mid + tick.Far; allowing(ticks, end) >= enough {
			high = max(high, end)
		}
	}
	return low, high
}

// allowing tells how many clocks allow a number.
func allowing(ticks []api.Tick, number int64) int {
	count := 0
	for _, tick := range ticks {
		if tick.Mid-tick.Far <= number && number <= tick.Mid+tick.Far {
			count++
		}
	}
	return count
}

// between tells the places of the clocks whose Mid is neither below low nor above high.
func between(ticks []api.Tick, low, high int64) []int {
	var who []int
	for place, tick := range ticks {
		if low <= tick.Mid && tick.Mid <= high {
			who = append(who, place)
		}
	}
	return who
}
