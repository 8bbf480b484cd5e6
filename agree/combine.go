package agree

import "chime/api"

// Combine tells what the clocks that are believed say together: the less one may be wrong, the more it counts.
func Combine(ticks []api.Tick) (int64, api.Errno) {
	choice, errno := Select(ticks)
	if errno != api.OK {
		return 0, errno
	}
	weights, products := 0.0, 0.0
	for _, place := range choice.Who {
		mid, weight := float64(ticks[place].Mid), weigh(ticks[place].Far)
		weights += weight
		// What is a float64 already is converted, which forbids the compiler to add the product without rounding it first.
		products += float64(weight * mid)
	}
	return int64(products / weights), api.OK
}

// weigh adds 1 behind the conversion: ahead of it, a great Far may round otherwise.
func weigh(far int64) float64 {
	return 1 / (float64(far) + 1)
}
