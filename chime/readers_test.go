package chime_test

import (
	"math/rand"
	"slices"
	"sync"
	"sync/atomic"
	"testing"

	"chime/api"
	"chime/chime"
)

// askedAt are counters at which every number of a clock can be seen.
var askedAt = []uint64{0, 1 << 33, 1<<33 + 1, 1 << 45}

// course is what a clock is given one after another, and what it tells at askedAt then: ahead of the first, nothing.
type course struct {
	given []published
	told  [][]uint64
}

func wildCourse(r *rand.Rand, many int) course {
	all := course{given: []published{{}}, told: [][]uint64{nil}}
	next := published{100, 5000, 0}
	set := next
	for range many {
		publishedByWords(&set, next)
		all.given = append(all.given, next)
		var times []uint64
		for _, counter := range askedAt {
			times = append(times, toldByWhole(set, counter))
		}
		all.told = append(all.told, times)
		next = published{set.counter + uint64(r.Intn(1000)), set.time + uint64(r.Intn(5000)), r.Int63n(2001) - 1000}
	}
	return all
}

// run publishes a course, while readers ask until the last is published. begun and done tell each reader which states
// were there while it asked.
func run(c *chime.Clock, course course, readers int, ask func(reader int, begun, done *atomic.Int64) bool) {
	var begun, done atomic.Int64
	var all, started sync.WaitGroup
	started.Add(readers)
	last := int64(len(course.given) - 1)
	for reader := range readers {
		all.Go(func() {
			started.Done()
			for ask(reader, &begun, &done) && done.Load() < last {
			}
		})
	}
	started.Wait()
	for i := int64(1); i <= last; i++ {
		begun.Store(i)
		c.Publish(course.given[i].counter, course.given[i].time, course.given[i].rate)
		done.Store(i)
	}
	all.Wait()
}

// among tells whether one of the states from low to high tells this.
func among(course course, low, high int64, tells func(told []uint64) bool) bool {
	return slices.ContainsFunc(course.told[low:high+1], tells)
}

func TestP2NowWhilePublished(t *testing.T) {
	c, course := chime.NewClock(), wildCourse(rand.New(rand.NewSource(36)), 30000)
	run(c, course, 4, func(reader int, begun, done *atomic.Int64) bool {
		place := reader % len(askedAt)
		low := done.Load()
		got, e := c.Now(askedAt[place])
		high := begun.Load()
		fine := among(course, low, high, func(told []uint64) bool {
			if told == nil {
				return got == 0 && e == api.ErrFew
			}
			return got == told[place] && e == api.OK
		})
		if !fine {
			t.Errorf("P2: Now(%d) = %d, %d, which none of the states %d to %d tells", askedAt[place], got, e, low, high)
		}
		return fine
	})
}

func TestP2ServeWhilePublished(t *testing.T) {
	c, course := chime.NewClock(), wildCourse(rand.New(rand.NewSource(37)), 30000)
	counters := slices.Repeat(askedAt, api.MaxReads/len(askedAt))
	run(c, course, 4, func(reader int, begun, done *atomic.Int64) bool {
		low := done.Load()
		got, e := c.Serve(counters, 2+2*reader)
		high := begun.Load()
		fine := among(course, low, high, func(told []uint64) bool {
			if told == nil {
				return got == nil && e == api.ErrFew
			}
			return slices.Equal(got, slices.Repeat(told, api.MaxReads/len(askedAt))) && e == api.OK
		})
		if !fine {
			t.Errorf("P2: Serve by %d = %v, %d, which none of the states %d to %d tells", 2+2*reader, got, e, low, high)
		}
		return fine
	})
}

// Each reader asks at the last counter that was published, so that nothing is published below one asked for.
func TestP13NeverGoesBackForMany(t *testing.T) {
	c, course := chime.NewClock(), wildCourse(rand.New(rand.NewSource(38)), 30000)
	last := make([]told, 8)
	run(c, course, len(last), func(reader int, begun, done *atomic.Int64) bool {
		counter := course.given[done.Load()].counter
		time, e := c.Now(counter)
		if e == api.OK && time < last[reader].time {
			t.Errorf("P13: told %d at %d, then %d at %d", last[reader].time, last[reader].counter, time, counter)
			return false
		}
		last[reader] = told{counter, time}
		return true
	})
}
