package clock

import (
	"testing"
	"time"
)

// A change that has begun and not ended is held open here, which from outside would be luck.
func TestP2ReaderReadsAgainWhileChanged(t *testing.T) {
	var c Clock
	c.Publish(100, 5000, 0)
	c.version.Add(1)
	c.counter.Store(200)
	answers := make(chan uint64, 1)
	go func() {
		told, _ := c.Now(300)
		answers <- told
	}()
	select {
	case told := <-answers:
		t.Fatalf("P2: Now(300) = %d, of a state that was half changed", told)
	case <-time.After(20 * time.Millisecond):
	}
	c.time.Store(6000)
	c.version.Add(1)
	if told := <-answers; told != 6100 {
		t.Errorf("P2: Now(300) = %d behind the change, want 6100", told)
	}
}
