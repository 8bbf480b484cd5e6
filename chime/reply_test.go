package chime_test

import (
	"bytes"
	"fmt"
	"math"
	"math/rand"
	"testing"

	"chime/api"
	"chime/chime"
)

// formed is the bytes of a packet that can be formed.
func formed(t *testing.T, p api.Packet) []byte {
	t.Helper()
	b, e := chime.Form(p)
	if e != api.OK {
		t.Fatalf("P3: Form(%+v): %d", p, e)
	}
	return b
}

// serving is what a server knows of itself; what does not go into an answer is beyond what a packet may hold.
func serving() api.Packet {
	return api.Packet{
		Leap: 2, Version: -1, Mode: 77, Stratum: 3, Poll: 1000, Precision: -18,
		Delay: 0x01020304, Dispersion: 0x05060708, Id: 0x090a0b0c, Reference: 0x0d0e0f1011121314,
		Origin: 0xaaaa, Receive: 0xbbbb, Transmit: 0xcccc,
	}
}

func checkReply(t *testing.T, what string, request []byte, state api.Packet, receive, transmit uint64, want []byte, wantErrno api.Errno) {
	t.Helper()
	b, e := chime.Reply(request, state, receive, transmit)
	if !bytes.Equal(b, want) || (b == nil) != (want == nil) || e != wantErrno {
		t.Errorf("P6: Reply, %s: % x, %d, want % x, %d", what, b, e, want, wantErrno)
	}
}

func TestP6ReplyBytes(t *testing.T) {
	_, request := plain()
	want := []byte{
		0x9c, 3, 6, 0xee,
		1, 2, 3, 4, 5, 6, 7, 8, 9, 10, 11, 12,
		0x0d, 0x0e, 0x0f, 0x10, 0x11, 0x12, 0x13, 0x14,
		0x71, 0x72, 0x73, 0x74, 0x75, 0x76, 0x77, 0x78,
		0, 0, 0, 1, 0, 0, 0, 2,
		0, 0, 0, 1, 0, 0, 0, 3,
	}
	checkReply(t, "plain", request, serving(), 1<<32+2, 1<<32+3, want, api.OK)
}

func TestP6ReplyTakesFieldsFromBoth(t *testing.T) {
	r := rand.New(rand.NewSource(8))
	for range 2000 {
		asked, state := randomPacket(r), randomPacket(r)
		asked.Mode = api.Client
		receive := r.Uint64()
		transmit := receive + uint64(r.Int63())
		want := state
		want.Version, want.Poll, want.Mode = asked.Version, asked.Poll, api.Server
		want.Origin, want.Receive, want.Transmit = asked.Transmit, receive, transmit
		state.Version, state.Poll, state.Mode = wildInt(r), wildInt(r), wildInt(r)
		checkReply(t, fmt.Sprintf("of %+v by %+v", asked, state), formed(t, asked), state, receive, transmit, formed(t, want), api.OK)
	}
}

func TestP6ReplyWhenItGoesBack(t *testing.T) {
	_, request := plain()
	for _, receive := range []uint64{0, 1, 5000, 1<<63 - 1, 1 << 63, math.MaxUint64} {
		for _, c := range []struct {
			later uint64
			errno api.Errno
		}{
			{0, api.OK}, {1, api.OK}, {1 << 62, api.OK}, {1<<63 - 1, api.OK},
			{1 << 63, api.ErrBack}, {1<<63 + 1, api.ErrBack}, {math.MaxUint64, api.ErrBack},
		} {
			b, e := chime.Reply(request, serving(), receive, receive+c.later)
			if e != c.errno || (b == nil) != (e != api.OK) {
				t.Errorf("P6: Reply, %d parts behind %d: % x, %d, want %d", c.later, receive, b, e, c.errno)
			}
		}
	}
}

func TestP6ReplyRefusesRequests(t *testing.T) {
	p, request := plain()
	p.Mode = api.Server
	notAsked := formed(t, p)
	wrongVersion, wrongMode := bytes.Clone(request), bytes.Clone(request)
	wrongVersion[0] = 5<<3 | api.Server
	wrongMode[0] = 4<<3 | 5
	beyond := serving()
	beyond.Leap = 4
	for _, c := range []struct {
		what    string
		request []byte
		errno   api.Errno
	}{
		{"nil", nil, api.ErrShort},
		{"47 bytes", request[:47], api.ErrShort},
		{"49 bytes", append(bytes.Clone(request), 0), api.ErrLong},
		{"a wrong version", wrongVersion, api.ErrVersion},
		{"a wrong mode", wrongMode, api.ErrMode},
		{"a server's packet", notAsked, api.ErrMode},
	} {
		checkReply(t, c.what, c.request, serving(), 1, 2, nil, c.errno)
		checkReply(t, c.what+", and it goes back", c.request, serving(), 2, 1, nil, c.errno)
		checkReply(t, c.what+", and all is wrong", c.request, beyond, 2, 1, nil, c.errno)
	}
	checkReply(t, "it goes back, and the state is beyond", request, beyond, 2, 1, nil, api.ErrBack)
	checkReply(t, "the state is beyond", request, beyond, 1, 2, nil, api.ErrRange)
}

func TestP6ReplyChecksTheState(t *testing.T) {
	_, request := plain()
	for _, c := range ranged() {
		for _, n := range []int{c.least, c.most, c.least - 1, c.most + 1, math.MinInt, math.MaxInt} {
			want := api.ErrRange
			if c.least <= n && n <= c.most || c.name == "Poll" { // the answer's Poll is the request's
				want = api.OK
			}
			state := serving()
			*c.field(&state) = n
			if b, e := chime.Reply(request, state, 1, 2); e != want || (b == nil) != (e != api.OK) {
				t.Errorf("P6: Reply, the state's %s is %d: % x, %d, want %d", c.name, n, b, e, want)
			}
		}
	}
}
