package chime_test

import (
	"bytes"
	"fmt"
	"math"
	"math/rand"
	"testing"

	"chime/api"
	"chime/chime"
)

// plain is a packet that every call takes, and its bytes.
func plain() (api.Packet, []byte) {
	p := api.Packet{
		Leap: 1, Version: 3, Mode: api.Client, Stratum: 2, Poll: 6, Precision: -20,
		Delay: 0x11121314, Dispersion: 0x21222324, Id: 0x31323334,
		Reference: 0x4142434445464748, Origin: 0x5152535455565758,
		Receive: 0x6162636465666768, Transmit: 0x7172737475767778,
	}
	b := []byte{
		0x5b, 2, 6, 0xec,
		0x11, 0x12, 0x13, 0x14, 0x21, 0x22, 0x23, 0x24, 0x31, 0x32, 0x33, 0x34,
		0x41, 0x42, 0x43, 0x44, 0x45, 0x46, 0x47, 0x48,
		0x51, 0x52, 0x53, 0x54, 0x55, 0x56, 0x57, 0x58,
		0x61, 0x62, 0x63, 0x64, 0x65, 0x66, 0x67, 0x68,
		0x71, 0x72, 0x73, 0x74, 0x75, 0x76, 0x77, 0x78,
	}
	return p, b
}

func checkParse(t *testing.T, what string, b []byte, want api.Packet, wantErrno api.Errno) {
	t.Helper()
	if p, e := chime.Parse(b); p != want || e != wantErrno {
		t.Errorf("P3: Parse, %s: %+v, %d, want %+v, %d", what, p, e, want, wantErrno)
	}
}

func checkForm(t *testing.T, what string, p api.Packet, want []byte, wantErrno api.Errno) {
	t.Helper()
	b, e := chime.Form(p)
	if !bytes.Equal(b, want) || (b == nil) != (want == nil) || e != wantErrno {
		t.Errorf("P3: Form, %s: % x, %d, want % x, %d", what, b, e, want, wantErrno)
	}
}

func TestP3PacketAndBytes(t *testing.T) {
	p, b := plain()
	checkParse(t, "a plain packet", b, p, api.OK)
	checkForm(t, "a plain packet", p, b, api.OK)
	checkParse(t, "least", append([]byte{0x1b}, make([]byte, 47)...), api.Packet{Version: 3, Mode: 3}, api.OK)
	checkForm(t, "least", api.Packet{Version: 4, Mode: 4}, append([]byte{0x24}, make([]byte, 47)...), api.OK)
	full := api.Packet{
		Leap: 3, Version: 4, Mode: 4, Stratum: 255, Poll: -1, Precision: -1,
		Delay: math.MaxUint32, Dispersion: math.MaxUint32, Id: math.MaxUint32,
		Reference: math.MaxUint64, Origin: math.MaxUint64, Receive: math.MaxUint64, Transmit: math.MaxUint64,
	}
	ones := append([]byte{0xe4}, bytes.Repeat([]byte{0xff}, 47)...)
	checkParse(t, "all bits", ones, full, api.OK)
	checkForm(t, "all bits", full, ones, api.OK)
}

func TestP3SmallFieldsAtEveryByte(t *testing.T) {
	for n := range 256 {
		signed := n
		if n > 127 {
			signed = n - 256
		}
		for i, set := range []func(*api.Packet){
			func(p *api.Packet) { p.Stratum = n },
			func(p *api.Packet) { p.Poll = signed },
			func(p *api.Packet) { p.Precision = signed },
		} {
			p, b := plain()
			set(&p)
			b[i+1] = byte(n)
			what := fmt.Sprintf("byte %d is %d", i+1, n)
			checkParse(t, what, b, p, api.OK)
			checkForm(t, what, p, b, api.OK)
		}
	}
}

func TestP3FirstByte(t *testing.T) {
	for leap := range 4 {
		for version := range 8 {
			for mode := range 8 {
				p, b := plain()
				p.Leap, p.Version, p.Mode = leap, version, mode
				b[0] = byte(leap*64 + version*8 + mode)
				what := fmt.Sprintf("leap %d, version %d, mode %d", leap, version, mode)
				e := api.OK
				switch {
				case version != 3 && version != 4:
					e = api.ErrVersion
				case mode != 3 && mode != 4:
					e = api.ErrMode
				}
				if e == api.OK {
					checkParse(t, what, b, p, e)
					checkForm(t, what, p, b, e)
				} else {
					checkParse(t, what, b, api.Packet{}, e)
					checkForm(t, what, p, nil, e)
				}
			}
		}
	}
}

func TestP3Length(t *testing.T) {
	_, b := plain()
	long := append(b, b...)
	checkParse(t, "nil", nil, api.Packet{}, api.ErrShort)
	for n := range len(long) {
		what := fmt.Sprintf("%d bytes", n)
		wrongVersion := bytes.Repeat([]byte{0xff}, n)
		switch {
		case n < 48:
			checkParse(t, what, long[:n], api.Packet{}, api.ErrShort)
			checkParse(t, what, wrongVersion, api.Packet{}, api.ErrShort)
		case n > 48:
			checkParse(t, what, long[:n], api.Packet{}, api.ErrLong)
			checkParse(t, what, wrongVersion, api.Packet{}, api.ErrLong)
		default:
			checkParse(t, what, wrongVersion, api.Packet{}, api.ErrVersion)
		}
	}
	checkParse(t, "a megabyte", make([]byte, 1<<20), api.Packet{}, api.ErrLong)
}

// rangedField is a field of a packet that ErrRange is about.
type rangedField struct {
	name        string
	field       func(*api.Packet) *int
	least, most int
}

func ranged() []rangedField {
	return []rangedField{
		{"Leap", func(p *api.Packet) *int { return &p.Leap }, 0, 3},
		{"Stratum", func(p *api.Packet) *int { return &p.Stratum }, 0, 255},
		{"Poll", func(p *api.Packet) *int { return &p.Poll }, -128, 127},
		{"Precision", func(p *api.Packet) *int { return &p.Precision }, -128, 127},
	}
}

func TestP3FormRanges(t *testing.T) {
	for _, c := range ranged() {
		for _, n := range []int{c.least, c.least + 1, c.most - 1, c.most} {
			p, _ := plain()
			*c.field(&p) = n
			b, e := chime.Form(p)
			if e != api.OK || len(b) != 48 {
				t.Errorf("P3: Form, %s %d: % x, %d", c.name, n, b, e)
			}
			checkParse(t, fmt.Sprintf("%s %d", c.name, n), b, p, api.OK)
		}
		for _, n := range []int{c.least - 1, c.most + 1, 256, 1 << 32, -1 << 32, math.MaxInt, math.MinInt} {
			p, _ := plain()
			*c.field(&p) = n
			checkForm(t, fmt.Sprintf("%s %d", c.name, n), p, nil, api.ErrRange)
			p.Version, p.Mode = 0, 0
			checkForm(t, fmt.Sprintf("%s %d, all wrong", c.name, n), p, nil, api.ErrRange)
		}
	}
}

func TestP3FormVersionAndMode(t *testing.T) {
	for _, n := range []int{math.MinInt, -5, -4, -3, -1, 0, 1, 2, 5, 6, 7, 8, 11, 12, 259, 260, 1<<32 + 3, math.MaxInt} {
		p, _ := plain()
		p.Version = n
		checkForm(t, fmt.Sprintf("version %d", n), p, nil, api.ErrVersion)
		p.Mode = n
		checkForm(t, fmt.Sprintf("version and mode %d", n), p, nil, api.ErrVersion)
		p.Version = 4
		checkForm(t, fmt.Sprintf("mode %d", n), p, nil, api.ErrMode)
	}
}

func randomPacket(r *rand.Rand) api.Packet {
	return api.Packet{
		Leap: r.Intn(4), Version: 3 + r.Intn(2), Mode: 3 + r.Intn(2), Stratum: r.Intn(256),
		Poll: r.Intn(256) - 128, Precision: r.Intn(256) - 128,
		Delay: r.Uint32(), Dispersion: r.Uint32(), Id: r.Uint32(),
		Reference: r.Uint64(), Origin: r.Uint64(), Receive: r.Uint64(), Transmit: r.Uint64(),
	}
}
