// Package clock keeps a clock that many may read at once, and that never goes back.
package clock

import (
	"sync/atomic"

	"chime/api"
)

// Clock is one that was not set, if it is of zeros. One goroutine at a time may Publish; any may read meanwhile.
type Clock struct {
	// version is odd while the numbers change, and 0 ahead of the first change.
	version atomic.Uint64
	counter atomic.Uint64
	time    atomic.Uint64
	rate    atomic.Int64
}

// Publish sets the clock, but for a time less than what it told: it would go back.
func (c *Clock) Publish(counter, time uint64, rate int64) api.Errno {
	if rate < -api.MaxRate || rate > api.MaxRate {
		return api.ErrRange
	}
	if before, known := c.read(); known {
		if counter < before.counter {
			return api.ErrBack
		}
		time = max(time, before.tell(counter))
	}
	c.set(state{counter: counter, time: time, rate: rate})
	return api.OK
}

// Now tells the time at a counter.
func (c *Clock) Now(counter uint64) (uint64, api.Errno) {
	now, known := c.read()
	if !known {
		return 0, api.ErrFew
	}
	return now.tell(counter), api.OK
}

func (c *Clock) set(next state) {
	c.version.Add(1)
	c.counter.Store(next.counter)
	c.time.Store(next.time)
	c.rate.Store(next.rate)
	c.version.Add(1)
}

// read takes the numbers of one state: if a change began or ended meanwhile, they may be of two, and are read again.
func (c *Clock) read() (now state, known bool) {
	for {
		version := c.version.Load()
		if version == 0 {
			return state{}, false
		}
		now = state{counter: c.counter.Load(), time: c.time.Load(), rate: c.rate.Load()}
		if version%2 == 0 && c.version.Load() == version {
			return now, true
		}
	}
}
