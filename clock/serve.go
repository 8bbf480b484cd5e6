package clock

import (
	"sync"

	"chime/api"
)

// Serve tells the times at many counters, by several readers.
func (c *Clock) Serve(counters []uint64, readers int) ([]uint64, api.Errno) {
	if len(counters) > api.MaxReads || readers < 1 || readers > api.Readers {
		return nil, api.ErrArg
	}
	// Read once for all readers: each by itself could come upon another state.
	now, known := c.read()
	if !known {
		return nil, api.ErrFew
	}
	times := make([]uint64, len(counters))
	var all sync.WaitGroup
	all.Add(readers)
	for first := range readers {
		go func() {
			defer all.Done()
			now.tellEach(times, counters, first, readers)
		}()
	}
	all.Wait()
	return times, api.OK
}

// tellEach fills every step-th place from first on, so that no two readers have a place in common.
func (s state) tellEach(times, counters []uint64, first, step int) {
	for place := first; place < len(counters); place += step {
		times[place] = s.tell(counters[place])
	}
}
