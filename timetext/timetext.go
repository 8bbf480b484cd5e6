// Package timetext reads times out of texts and tells them.
package timetext

import (
	"math"
	"math/bits"
	"strconv"

	"chime/api"
)

const (
	second          = 1 << 32 // parts of one
	secondsFigures  = 10
	fractionFigures = 12
	fractionUnits   = 1_000_000_000_000 // a second, as a fraction of fractionFigures
	toldFigures     = 10
)

// zeros are the first figures of the rows of ten.
var zeros = [4]rune{0x0030, 0x0660, 0x06F0, 0xFF10}

// fault is what a text that is no time gives up with, from wherever that is seen.
type fault struct {
	errno api.Errno
	place int
}

// Read reads a time, or tells what is wrong, and at which byte.
func Read(text string) (time uint64, errno api.Errno, place int) {
	defer func() {
		if f, ok := recover().(fault); ok {
			time, errno, place = 0, f.errno, f.place
		}
	}()
	var r reading
	for at, c := range text {
		r.take(at, c)
	}
	r.end(len(text))
	return r.time(), api.OK, 0
}

// Tell tells a time to ten places behind the point.
func Tell(t uint64) string {
	told := strconv.AppendUint(nil, t/second, 10)
	told = append(told, '.')
	// One figure at a time: all ten at once would not fit into 64 bits.
	parts := t % second
	for range toldFigures {
		parts *= 10
		told = append(told, '0'+byte(parts/second))
		parts %= second
	}
	return string(told)
}

// reading is what has been read of a text so far.
type reading struct {
	seconds, fraction number
	behindPoint       bool
}

type number struct {
	value   uint64
	figures int
}

func (r *reading) take(at int, c rune) {
	switch {
	case r.behindPoint:
		r.fraction.take(at, c, fractionFigures)
	case c == '.' && r.seconds.figures > 0:
		r.behindPoint = true
	default:
		r.seconds.take(at, c, secondsFigures)
	}
}

// end looks at the range only here, since a wrong rune behind too many seconds goes first.
func (r *reading) end(length int) {
	if r.seconds.figures == 0 || r.behindPoint && r.fraction.figures == 0 {
		panic(fault{api.ErrText, length})
	}
	if r.seconds.value > math.MaxUint32 {
		panic(fault{api.ErrRange, 0})
	}
}

func (r *reading) time() uint64 {
	return r.seconds.value*second + r.fraction.parts()
}

func (n *number) take(at int, c rune, most int) {
	value := figure(at, c)
	if n.figures == most {
		panic(fault{api.ErrText, at})
	}
	n.value = n.value*10 + value
	n.figures++
}

// parts multiplies into 128 bits: a fraction of twelve figures times the parts of a second does not fit into 64.
func (n *number) parts() uint64 {
	units := n.value
	for range fractionFigures - n.figures {
		units *= 10
	}
	high, low := bits.Mul64(units, second)
	parts, _ := bits.Div64(high, low, fractionUnits)
	return parts
}

func figure(at int, c rune) uint64 {
	for _, zero := range zeros {
		if zero <= c && c <= zero+9 {
			return uint64(c - zero)
		}
	}
	panic(fault{api.ErrText, at})
}
