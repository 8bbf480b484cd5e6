// Package packet turns packets into their 48 bytes and back.
package packet

import "chime/api"

// Parse reads a packet out of its bytes.
func Parse(b []byte) (api.Packet, api.Errno) {
	if len(b) < api.Size {
		return api.Packet{}, api.ErrShort
	}
	if len(b) > api.Size {
		return api.Packet{}, api.ErrLong
	}
	p := unpack(b)
	if errno := checkKind(p); errno != api.OK {
		return api.Packet{}, errno
	}
	return p, api.OK
}

// Form writes a packet as bytes.
func Form(p api.Packet) ([]byte, api.Errno) {
	if !fits(p) {
		return nil, api.ErrRange
	}
	if errno := checkKind(p); errno != api.OK {
		return nil, errno
	}
	return pack(p), api.OK
}

func checkKind(p api.Packet) api.Errno {
	if p.Version != 3 && p.Version != 4 {
		return api.ErrVersion
	}
	if p.Mode != api.Client && p.Mode != api.Server {
		return api.ErrMode
	}
	return api.OK
}

// fits leaves out Version and Mode: those have errors of their own, which come behind ErrRange.
func fits(p api.Packet) bool {
	return within(p.Leap, 0, 3) &&
		within(p.Stratum, 0, 255) &&
		within(p.Poll, -128, 127) &&
		within(p.Precision, -128, 127)
}

func within(n, least, most int) bool {
	return least <= n && n <= most
}

func unpack(b []byte) api.Packet {
	return api.Packet{
		Leap:       int(b[0] >> 6),
		Version:    int(b[0] >> 3 & 7),
		Mode:       int(b[0] & 7),
		Stratum:    int(b[1]),
		Poll:       int(int8(b[2])),
		Precision:  int(int8(b[3])),
		Delay:      uint32(number(b[4:8])),
		Dispersion: uint32(number(b[8:12])),
		Id:         uint32(number(b[12:16])),
		Reference:  number(b[16:24]),
		Origin:     number(b[24:32]),
		Receive:    number(b[32:40]),
		Transmit:   number(b[40:48]),
	}
}

func pack(p api.Packet) []byte {
	b := make([]byte, api.Size)
	b[0] = byte(p.Leap<<6 | p.Version<<3 | p.Mode)
	b[1] = byte(p.Stratum)
	b[2] = byte(p.Poll)
	b[3] = byte(p.Precision)
	putNumber(b[4:8], uint64(p.Delay))
	putNumber(b[8:12], uint64(p.Dispersion))
	putNumber(b[12:16], uint64(p.Id))
	putNumber(b[16:24], p.Reference)
	putNumber(b[24:32], p.Origin)
	putNumber(b[32:40], p.Receive)
	putNumber(b[40:48], p.Transmit)
	return b
}

func number(b []byte) uint64 {
	var n uint64
	for _, c := range b {
		n = n<<8 | uint64(c)
	}
	return n
}

func putNumber(b []byte, n uint64) {
	for i := len(b) - 1; i >= 0; i-- {
		b[i] = byte(n)
		n >>= 8
	}
}
