package chime_test

import (
	"bytes"
	"math/rand"
	"sync"
	"testing"

	"chime/api"
	"chime/chime"
)

// wildInt is often at or beside an edge, at times anything.
func wildInt(r *rand.Rand) int {
	edges := []int{-129, -128, -1, 0, 3, 4, 127, 128, 255, 256}
	if r.Intn(4) == 0 {
		return int(r.Uint64())
	}
	return edges[r.Intn(len(edges))]
}

func wildPacket(r *rand.Rand) api.Packet {
	p := randomPacket(r)
	for _, field := range []*int{&p.Leap, &p.Version, &p.Mode, &p.Stratum, &p.Poll, &p.Precision} {
		if r.Intn(4) == 0 {
			*field = wildInt(r)
		}
	}
	return p
}

func wildBytes(r *rand.Rand) []byte {
	b := make([]byte, 44+r.Intn(8))
	r.Read(b)
	return b
}

func wildText(r *rand.Rand) string {
	pieces := []string{"1", "42", "9", "٣", "．", ".", "x", "\xff", "\xef\xbc", "\x00", "\U0010FFFF"}
	text := ""
	for range r.Intn(20) {
		if r.Intn(8) == 0 {
			text += pieces[r.Intn(len(pieces))]
		} else {
			text += pieces[r.Intn(4)]
		}
	}
	return text
}

// A panic that leaves a call fails this test too.
func TestP1ErrorsComeAlone(t *testing.T) {
	r := rand.New(rand.NewSource(1))
	for range 20000 {
		b := wildBytes(r)
		if p, e := chime.Parse(b); e != api.OK && p != (api.Packet{}) {
			t.Errorf("P1: Parse(% x) = %+v, %d", b, p, e)
		}
		p := wildPacket(r)
		if b, e := chime.Form(p); (e == api.OK) != (len(b) == api.Size) || e != api.OK && b != nil {
			t.Errorf("P1: Form(%+v) = % x, %d", p, b, e)
		}
		text := wildText(r)
		v, e, place := chime.Read(text)
		if e != api.OK && v != 0 || e != api.ErrText && place != 0 || place < 0 || place > len(text) {
			t.Errorf("P1: Read(%q) = %d, %d, %d", text, v, e, place)
		}
		chime.Tell(r.Uint64())
		chime.Measure(r.Uint64(), r.Uint64(), r.Uint64(), r.Uint64())
	}
}

func TestP1FirstNamedErrorIsTold(t *testing.T) {
	if _, e := chime.Parse([]byte{0xff}); e != api.ErrShort {
		t.Errorf("P1: Parse, short, version and mode wrong: %d", e)
	}
	if _, e := chime.Parse(bytes.Repeat([]byte{0xff}, 49)); e != api.ErrLong {
		t.Errorf("P1: Parse, long, version and mode wrong: %d", e)
	}
	if _, e := chime.Parse(make([]byte, 48)); e != api.ErrVersion {
		t.Errorf("P1: Parse, version and mode wrong: %d", e)
	}
	if _, e := chime.Form(api.Packet{Precision: 128}); e != api.ErrRange {
		t.Errorf("P1: Form, precision, version and mode wrong: %d", e)
	}
	if _, e := chime.Form(api.Packet{}); e != api.ErrVersion {
		t.Errorf("P1: Form, version and mode wrong: %d", e)
	}
	if _, e, place := chime.Read("5000000000.5x"); e != api.ErrText || place != 12 {
		t.Errorf("P1: Read, seconds and a rune wrong: %d, %d", e, place)
	}
}

// ourRoom is bytes with room ahead of them and behind, all of it told apart.
func ourRoom(b []byte, room int) []byte {
	whole := bytes.Repeat([]byte{0xa5}, room+len(b)+room)
	copy(whole[room:], b)
	return whole
}

func TestP2ParseWritesNothing(t *testing.T) {
	_, good := plain()
	for _, b := range [][]byte{good, good[:47], append(good[:48:48], 1), make([]byte, 48), bytes.Repeat([]byte{0xff}, 48), {}} {
		whole := ourRoom(b, 64)
		before := bytes.Clone(whole)
		chime.Parse(whole[64 : 64+len(b)])
		if !bytes.Equal(whole, before) {
			t.Errorf("P2: Parse of %d bytes wrote: % x", len(b), whole)
		}
	}
}

func TestP2FormGivesNewRoom(t *testing.T) {
	p, want := plain()
	first, _ := chime.Form(p)
	second, _ := chime.Form(p)
	for i := range first[:cap(first)] {
		first[:cap(first)][i] = 0xee
	}
	third, _ := chime.Form(p)
	if !bytes.Equal(second, want) || !bytes.Equal(third, want) {
		t.Errorf("P2: Form after another answer was written into: % x, % x", second, third)
	}
}

// oneOfEach tells what the calls answer to some inputs.
func oneOfEach(seed int64) []any {
	r := rand.New(rand.NewSource(seed))
	var l []any
	for range 500 {
		parsed, e := chime.Parse(wildBytes(r))
		formed, f := chime.Form(wildPacket(r))
		read, g, place := chime.Read(wildText(r))
		l = append(l, parsed, e, string(formed), f, read, g, place)
		l = append(l, chime.Tell(r.Uint64()), chime.Measure(r.Uint64(), r.Uint64(), r.Uint64(), r.Uint64()))
	}
	return l
}

func TestP2AnswersHangOnArgumentsAlone(t *testing.T) {
	want := oneOfEach(2)
	got := make([][]any, 8)
	var all sync.WaitGroup
	for i := range got {
		all.Go(func() { got[i] = oneOfEach(2) })
	}
	all.Wait()
	for i := range got {
		for j := range want {
			if got[i][j] != want[j] {
				t.Fatalf("P2: goroutine %d, answer %d: %#v, want %#v", i, j, got[i][j], want[j])
			}
		}
	}
}
