package chime_test

import (
	"bytes"
	"fmt"
	"math/rand"
	"slices"
	"sync"
	"testing"

	"chime/api"
	"chime/chime"
)

// wildInt is often at or beside an edge, at times anything.
func wildInt(r *rand.Rand) int {
	edges := []int{-129, -128, -1, 0, 3, 4, 127, 128, 255, 256}
	if r.Intn(4) == 0 {
		return int(r.Uint64())
	}
	return edges[r.Intn(len(edges))]
}

func wildPacket(r *rand.Rand) api.Packet {
	p := randomPacket(r)
	for _, field := range []*int{&p.Leap, &p.Version, &p.Mode, &p.Stratum, &p.Poll, &p.Precision} {
		if r.Intn(4) == 0 {
			*field = wildInt(r)
		}
	}
	return p
}

func wildBytes(r *rand.Rand) []byte {
	b := make([]byte, 44+r.Intn(8))
	r.Read(b)
	return b
}

func wildText(r *rand.Rand) string {
	pieces := []string{"1", "42", "9", "٣", "．", ".", "x", "\xff", "\xef\xbc", "\x00", "\U0010FFFF"}
	text := ""
	for range r.Intn(20) {
		if r.Intn(8) == 0 {
			text += pieces[r.Intn(len(pieces))]
		} else {
			text += pieces[r.Intn(4)]
		}
	}
	return text
}

// A panic that leaves a call fails this test too.
func TestP1ErrorsComeAlone(t *testing.T) {
	r := rand.New(rand.NewSource(1))
	for range 20000 {
		b := wildBytes(r)
		if p, e := chime.Parse(b); e != api.OK && p != (api.Packet{}) {
			t.Errorf("P1: Parse(% x) = %+v, %d", b, p, e)
		}
		p := wildPacket(r)
		if b, e := chime.Form(p); (e == api.OK) != (len(b) == api.Size) || e != api.OK && b != nil {
			t.Errorf("P1: Form(%+v) = % x, %d", p, b, e)
		}
		text := wildText(r)
		v, e, place := chime.Read(text)
		if e != api.OK && v != 0 || e != api.ErrText && place != 0 || place < 0 || place > len(text) {
			t.Errorf("P1: Read(%q) = %d, %d, %d", text, v, e, place)
		}
		if b, e := chime.Reply(wildFormed(r), p, r.Uint64(), r.Uint64()); (e == api.OK) != (len(b) == api.Size) || e != api.OK && b != nil {
			t.Errorf("P1: Reply = % x, %d", b, e)
		}
		chime.Tell(r.Uint64())
		chime.Measure(r.Uint64(), r.Uint64(), r.Uint64(), r.Uint64())
	}
}

// wildFormed is often a request, or an answer to one of few, so that some are taken.
func wildFormed(r *rand.Rand) []byte {
	p := randomPacket(r)
	p.Origin, p.Mode, p.Stratum = uint64(r.Intn(3)), 3+r.Intn(2), r.Intn(18)
	b, _ := chime.Form(p)
	if r.Intn(8) == 0 {
		return wildBytes(r)
	}
	return b
}

func TestP1PeersAtAnything(t *testing.T) {
	r := rand.New(rand.NewSource(12))
	p := chime.NewPeer()
	taken := 0
	for range 20000 {
		if r.Intn(2) == 0 {
			p.Ask(uint64(r.Intn(3)))
		}
		before, differBefore, errnoBefore := p.Best()
		s, e := p.Take(wildFormed(r), r.Uint64())
		after, differAfter, errnoAfter := p.Best()
		if e == api.OK {
			taken++
			continue
		}
		if s != (api.Sample{}) || before != after || differBefore != differAfter || errnoBefore != errnoAfter {
			t.Errorf("P1: Take = %+v, %d; the best was %+v, %v, %d, is %+v, %v, %d", s, e, before, differBefore, errnoBefore, after, differAfter, errnoAfter)
		}
	}
	if taken < 100 {
		t.Errorf("P1: only %d replies were taken", taken)
	}
}

// wildTicks are often some that can be chosen from, at times too many, none, or any numbers.
func wildTicks(r *rand.Rand) []api.Tick {
	switch r.Intn(4) {
	case 0:
		return fewTicks(r)
	case 1:
		return wideTicks(r)
	}
	l := make([]api.Tick, r.Intn(api.MaxTicks+4))
	for i := range l {
		l[i] = api.Tick{Mid: int64(r.Uint64()) >> uint(r.Intn(64)), Far: int64(r.Uint64() >> uint(r.Intn(64)))}
	}
	return l
}

func TestP1ClocksAtAnything(t *testing.T) {
	r := rand.New(rand.NewSource(13))
	for range 20000 {
		l := wildTicks(r)
		c, e := chime.Select(l)
		if e != api.OK && (c.Low != 0 || c.High != 0 || c.Who != nil) {
			t.Errorf("P1: Select(%v) = %+v, %d", l, c, e)
		}
		if n, f := chime.Combine(l); f != e || f != api.OK && n != 0 {
			t.Errorf("P1: Combine(%v) = %d, %d, of which Select says %d", l, n, f, e)
		}
	}
}

// askAnything asks a clock at any arguments, and tells how many answers were errors that did not come alone.
func askAnything(r *rand.Rand, c *chime.Clock) (faults int) {
	if time, e := c.Now(wildNumber(r)); e != api.OK && time != 0 {
		faults++
	}
	if times, e := c.Serve(wildCounters(r, wildNumber(r), r.Intn(api.MaxReads+4)), r.Intn(api.Readers+4)-1); e != api.OK && times != nil {
		faults++
	}
	if times, e := c.Serve(nil, wildInt(r)); e != api.OK && times != nil {
		faults++
	}
	return faults
}

func TestP1OwnClockAtAnything(t *testing.T) {
	r := rand.New(rand.NewSource(39))
	refused := 0
	for range 2000 {
		c := chime.NewClock()
		for range r.Intn(10) {
			counter := wildNumber(r)
			before, errnoBefore := c.Now(counter)
			e := c.Publish(wildNumber(r), wildNumber(r), int64(r.Uint64())>>(50+r.Intn(10)))
			if faults := askAnything(r, c); faults != 0 {
				t.Errorf("P1: %d errors did not come alone", faults)
			}
			after, errnoAfter := c.Now(counter)
			if e == api.OK {
				continue
			}
			refused++
			if before != after || errnoBefore != errnoAfter {
				t.Errorf("P1: Publish refused: %d: told %d, %d, tells %d, %d", e, before, errnoBefore, after, errnoAfter)
			}
		}
	}
	if refused < 100 {
		t.Errorf("P1: only %d were refused", refused)
	}
}

func TestP1FirstNamedErrorIsTold(t *testing.T) {
	if _, e := chime.Parse([]byte{0xff}); e != api.ErrShort {
		t.Errorf("P1: Parse, short, version and mode wrong: %d", e)
	}
	if _, e := chime.Parse(bytes.Repeat([]byte{0xff}, 49)); e != api.ErrLong {
		t.Errorf("P1: Parse, long, version and mode wrong: %d", e)
	}
	if _, e := chime.Parse(make([]byte, 48)); e != api.ErrVersion {
		t.Errorf("P1: Parse, version and mode wrong: %d", e)
	}
	if _, e := chime.Form(api.Packet{Precision: 128}); e != api.ErrRange {
		t.Errorf("P1: Form, precision, version and mode wrong: %d", e)
	}
	if _, e := chime.Form(api.Packet{}); e != api.ErrVersion {
		t.Errorf("P1: Form, version and mode wrong: %d", e)
	}
	if _, e, place := chime.Read("5000000000.5x"); e != api.ErrText || place != 12 {
		t.Errorf("P1: Read, seconds and a rune wrong: %d, %d", e, place)
	}
}

// ourRoom is bytes with room ahead of them and behind, all of it told apart.
func ourRoom(b []byte, room int) []byte {
	whole := bytes.Repeat([]byte{0xa5}, room+len(b)+room)
	copy(whole[room:], b)
	return whole
}

func TestP2ParseWritesNothing(t *testing.T) {
	_, good := plain()
	for _, b := range [][]byte{good, good[:47], append(good[:48:48], 1), make([]byte, 48), bytes.Repeat([]byte{0xff}, 48), {}} {
		whole := ourRoom(b, 64)
		before := bytes.Clone(whole)
		chime.Parse(whole[64 : 64+len(b)])
		if !bytes.Equal(whole, before) {
			t.Errorf("P2: Parse of %d bytes wrote: % x", len(b), whole)
		}
	}
}

func TestP2FormGivesNewRoom(t *testing.T) {
	p, want := plain()
	first, _ := chime.Form(p)
	second, _ := chime.Form(p)
	overwrite(first)
	third, _ := chime.Form(p)
	if !bytes.Equal(second, want) || !bytes.Equal(third, want) {
		t.Errorf("P2: Form after another answer was written into: % x, % x", second, third)
	}
}

func TestP2ReplyAndTakeWriteNothing(t *testing.T) {
	_, request := plain()
	reply := formed(t, answering(1000, 2000, 2000))
	p := chime.NewPeer()
	for _, b := range [][]byte{request, reply, reply[:47], append(reply[:48:48], 1), make([]byte, 48), {}} {
		whole := ourRoom(b, 64)
		before := bytes.Clone(whole)
		handed := whole[64 : 64+len(b)]
		p.Ask(1000)
		p.Take(handed, 1010)
		chime.Reply(handed, serving(), 1, 2)
		chime.Reply(handed, serving(), 2, 1)
		if !bytes.Equal(whole, before) {
			t.Errorf("P2: Take or Reply of %d bytes wrote: % x", len(b), whole)
		}
	}
}

// overwrite writes into bytes and behind them.
func overwrite(b []byte) {
	for i := range b[:cap(b)] {
		b[:cap(b)][i] = 0xee
	}
}

func TestP2ReplyGivesNewRoom(t *testing.T) {
	_, request := plain()
	want, _ := chime.Reply(request, serving(), 1, 2)
	want = bytes.Clone(want)
	first, _ := chime.Reply(request, serving(), 1, 2)
	second, _ := chime.Reply(request, serving(), 1, 2)
	overwrite(first)
	third, _ := chime.Reply(request, serving(), 1, 2)
	if !bytes.Equal(second, want) || !bytes.Equal(third, want) {
		t.Errorf("P2: Reply after another answer was written into: % x, % x, want % x", second, third, want)
	}
	_, before := plain()
	if !bytes.Equal(request, before) {
		t.Errorf("P2: the request shares room with the answer: % x", request)
	}
}

func TestP2PeersKeepNoBytes(t *testing.T) {
	p := chime.NewPeer()
	first := p.Ask(1000)
	second := p.Ask(1000)
	want := bytes.Clone(second)
	overwrite(first)
	if !bytes.Equal(second, want) {
		t.Errorf("P2: Ask after another answer was written into: % x, want % x", second, want)
	}
	overwrite(second)
	reply := formed(t, answering(1000, 2000, 2000))
	checkTake(t, "the request was written into", p, reply, 1002, api.Sample{Offset: 999, Delay: 2}, api.OK)
	overwrite(reply)
	checkBest(t, "the reply was written into", p, api.Sample{Offset: 999, Delay: 2}, 0, api.OK)
}

func TestP2SelectAndCombineWriteNothing(t *testing.T) {
	r := rand.New(rand.NewSource(14))
	for range 2000 {
		l := wildTicks(r)
		whole := slices.Repeat(ticks([2]int64{-77, 77}), 40+len(l)+40)
		copy(whole[40:], l)
		before := slices.Clone(whole)
		handed := whole[40 : 40+len(l)]
		chime.Select(handed)
		chime.Combine(handed)
		if !slices.Equal(whole, before) {
			t.Errorf("P2: Select or Combine of %v wrote: %v", l, whole)
		}
	}
}

func TestP2SelectGivesNewRoom(t *testing.T) {
	r := rand.New(rand.NewSource(15))
	for range 2000 {
		l := wildTicks(r)
		first, _ := chime.Select(l)
		second, _ := chime.Select(l)
		want := api.Choice{Low: second.Low, High: second.High, Who: slices.Clone(second.Who)}
		for i := range first.Who[:cap(first.Who)] {
			first.Who[:cap(first.Who)][i] = 99
		}
		third, _ := chime.Select(l)
		if !sameChoice(second, want) || !sameChoice(third, want) {
			t.Errorf("P2: Select(%v) after another answer was written into: %+v, %+v, want %+v", l, second, third, want)
		}
	}
}

// oneOfEach tells what the calls answer to some inputs.
func oneOfEach(seed int64) []any {
	r := rand.New(rand.NewSource(seed))
	var l []any
	p, own := chime.NewPeer(), chime.NewClock()
	for range 500 {
		parsed, e := chime.Parse(wildBytes(r))
		formed, f := chime.Form(wildPacket(r))
		read, g, place := chime.Read(wildText(r))
		l = append(l, parsed, e, string(formed), f, read, g, place)
		l = append(l, chime.Tell(r.Uint64()), chime.Measure(r.Uint64(), r.Uint64(), r.Uint64(), r.Uint64()))
		request := p.Ask(uint64(r.Intn(3)))
		replied, h := chime.Reply(request, wildPacket(r), r.Uint64(), r.Uint64())
		sample, i := p.Take(wildFormed(r), r.Uint64())
		best, differ, j := p.Best()
		l = append(l, string(request), string(replied), h, sample, i, best, differ, j)
		clocks := wildTicks(r)
		choice, k := chime.Select(clocks)
		combined, m := chime.Combine(clocks)
		l = append(l, fmt.Sprint(choice), k, combined, m)
		set := own.Publish(uint64(r.Intn(1000)), wildNumber(r), r.Int63n(2100)-1050)
		now, n := own.Now(wildNumber(r))
		times, o := own.Serve(wildCounters(r, 500, r.Intn(api.MaxReads+2)), r.Intn(api.Readers+2))
		l = append(l, set, now, n, fmt.Sprint(times), o)
	}
	return l
}

func TestP2AnswersHangOnArgumentsAlone(t *testing.T) {
	want := oneOfEach(2)
	got := make([][]any, 8)
	var all sync.WaitGroup
	for i := range got {
		all.Go(func() { got[i] = oneOfEach(2) })
	}
	all.Wait()
	for i := range got {
		for j := range want {
			if got[i][j] != want[j] {
				t.Fatalf("P2: goroutine %d, answer %d: %#v, want %#v", i, j, got[i][j], want[j])
			}
		}
	}
}
