package peer

import (
	"math"

	"chime/api"
)

const second = 1 << 32 // parts of one

// leastDelay tells the place of the sample with the least delay, of several the last.
func leastDelay(samples []api.Sample) int {
	best := 0
	for i, sample := range samples {
		if sample.Delay <= samples[best].Delay {
			best = i
		}
	}
	return best
}

// spread goes from the last sample back: another order of adding up may round otherwise.
func spread(samples []api.Sample, best int) float64 {
	others := len(samples) - 1
	if others == 0 {
		return 0
	}
	sum := 0.0
	for i := others; i >= 0; i-- {
		if i != best {
			sum += square(seconds(samples[i].Offset - samples[best].Offset))
		}
	}
	return math.Sqrt(sum / float64(others))
}

func seconds(parts int64) float64 {
	return float64(parts) / second
}

// square converts what is a float64 already, which forbids the compiler to add to the product without rounding it first.
func square(x float64) float64 {
	return float64(x * x)
}
