package flow_test

import (
	"math/rand"
	"strings"
	"testing"

	"palanquin/api"
	"palanquin/flow"
)

// Addresses, every byte unlike the others.
const (
	src4 = "\x0a\x01\x02\x03"
	dst4 = "\xc0\xa8\xff\x04"
	src6 = "\x20\x01\x0d\xb8\x11\x12\x13\x14\x15\x16\x17\x18\x19\x1a\x1b\x1c"
	dst6 = "\xfe\x80\x00\x2f\x10\x21\x30\x40\x50\x60\x70\x81\x90\xa0\xb0\xc0"
)

// A segment and a datagram without sums, both with the ports 0x1122 and 0x3344.
const (
	plainSegment  = "\x11\x22\x33\x44\x55\x66\x77\x88\x99\xaa\xbb\xcc\x60\x18\xd0\xe1\x00\x00\x00\x05\x02\x04\x05\xb4payload"
	plainDatagram = "\x11\x22\x33\x44\x00\x0f\x00\x00payload"
)

// plain4 is a header that may be, and is no piece's.
func plain4(proto int) api.Header4 {
	return api.Header4{TOS: 0x17, ID: 0x2836, TTL: 0x66, Proto: proto, DF: true, Src: src4, Dst: dst4, Options: "\x94\x04\x00\x00"}
}

// plain6 is a header that may be.
func plain6(next int) api.Header6 {
	return api.Header6{Class: 0x1e, Label: 0x2d3c4, Next: next, Hops: 0x66, Src: src6, Dst: dst6}
}

// version is how packets of one version are put together here.
type version struct {
	name     string
	src, dst string
	least    int // how many bytes a packet has at least
	head     int // how many stand ahead of the payload here
	protoAt  int
	srcAt    int
	put      func(proto int, payload string) string
	mend     func(p string) string // with its length, and its header's sum, as they must be
}

func versions() []version {
	put4 := func(proto int, payload string) string { return slowPut4(plain4(proto), payload) }
	put6 := func(next int, payload string) string { return slowPut6(plain6(next), payload) }
	return []version{
		{"IPv4", src4, dst4, 20, 24, 9, 12, put4, mended4},
		{"IPv6", src6, dst6, 40, 40, 6, 8, put6, mended6},
	}
}

// kind is what a packet carries.
type kind struct {
	name  string
	proto int
	least int    // how many bytes it has at least
	sumAt int    // where its sum stands
	plain string // one without sum
}

func kinds() []kind {
	return []kind{{"TCP", 6, 20, 16, plainSegment}, {"UDP", 17, 8, 6, plainDatagram}}
}

// eachKind runs a test for both versions and both protocols, with a packet that is grammar-valid.
func eachKind(t *testing.T, test func(t *testing.T, v version, k kind, whole string)) {
	for _, v := range versions() {
		for _, k := range kinds() {
			t.Run(v.name+" "+k.name, func(t *testing.T) {
				test(t, v, k, v.put(k.proto, slowSeal(k.proto, v.src, v.dst, k.plain)))
			})
		}
	}
}

// plainFlow is that of what eachKind hands out.
func plainFlow(v version, k kind) api.Flow {
	return api.Flow{Proto: k.proto, Src: v.src, Dst: v.dst, SrcPort: 0x1122, DstPort: 0x3344}
}

func two(n int) string { return string([]byte{byte(n / 256 % 256), byte(n % 256)}) }

// withByte is p with another byte at a place.
func withByte(p string, at int, b byte) string { return p[:at] + string([]byte{b}) + p[at+1:] }

// withTwo is p with another number of two bytes at a place.
func withTwo(p string, at, n int) string { return p[:at] + two(n) + p[at+2:] }

func numberAt(p string, at int) int { return int(p[at])*256 + int(p[at+1]) }

// slowSum is the sum of a text, a byte 00 put behind an odd one.
func slowSum(text string) int {
	if len(text)%2 == 1 {
		text += "\x00"
	}
	total := 0
	for i := 0; i < len(text); i += 2 {
		total += numberAt(text, i)
	}
	for total > 65535 {
		total = total%65536 + total/65536
	}
	return 65535 - total
}

// slowAhead is the pseudo header.
func slowAhead(src, dst string, proto, n int) string {
	if len(src) == 16 {
		return src + dst + two(n/65536) + two(n) + "\x00\x00\x00" + string([]byte{byte(proto)})
	}
	return src + dst + "\x00" + string([]byte{byte(proto)}) + two(n)
}

// slowSeal follows the chapter word for word.
func slowSeal(proto int, src, dst, payload string) string {
	for _, k := range kinds() {
		if k.proto != proto || len(payload) < k.least {
			continue
		}
		n := slowSum(slowAhead(src, dst, proto, len(payload)) + withTwo(payload, k.sumAt, 0))
		if proto == 17 && n == 0 {
			n = 65535
		}
		return withTwo(payload, k.sumAt, n)
	}
	return payload
}

// mended4 is a packet of IPv4 with its length and its header's sum as they must be.
func mended4(p string) string {
	p = withTwo(withTwo(p, 2, len(p)), 10, 0)
	return withTwo(p, 10, slowSum(p[:min(int(p[0]%16)*4, len(p))]))
}

// mended6 is a packet of IPv6 with its payload's length as it must be.
func mended6(p string) string { return withTwo(p, 4, len(p)-40) }

// slowPut4 is a packet of IPv4 byte by byte, of a header that may be.
func slowPut4(h api.Header4, payload string) string {
	flags := h.Offset
	if h.MF {
		flags += 8192
	}
	if h.DF {
		flags += 16384
	}
	b := string([]byte{byte(69 + len(h.Options)/4), byte(h.TOS)}) + "\x00\x00" + two(h.ID) + two(flags)
	return mended4(b + string([]byte{byte(h.TTL), byte(h.Proto)}) + "\x00\x00" + h.Src + h.Dst + h.Options + payload)
}

// slowPut6 is a packet of IPv6 byte by byte, of a header that may be.
func slowPut6(h api.Header6, payload string) string {
	b := two(6*4096+h.Class*16+h.Label/65536) + two(h.Label) + "\x00\x00"
	return mended6(b + string([]byte{byte(h.Next), byte(h.Hops)}) + h.Src + h.Dst + payload)
}

// seen is what was seen of a packet of either version.
type seen struct {
	proto             int
	src, dst, payload string
	piece, six        bool
}

// slowGet asks the chapter's questions, one by one, of the bytes themselves.
func slowGet(p string) (api.Flow, api.Errno) {
	if len(p) == 0 {
		return api.Flow{}, api.ErrShort
	}
	var s seen
	var e api.Errno
	switch p[0] / 16 {
	case 4:
		s, e = slowSee4(p)
	case 6:
		s, e = slowSee6(p)
	default:
		return api.Flow{}, api.ErrVersion
	}
	if e == api.OK {
		e = slowFault(s)
	}
	if e != api.OK {
		return api.Flow{}, e
	}
	return api.Flow{Proto: s.proto, Src: s.src, Dst: s.dst, SrcPort: numberAt(s.payload, 0), DstPort: numberAt(s.payload, 2)}, api.OK
}

func slowSee4(p string) (seen, api.Errno) {
	if len(p) < 20 {
		return seen{}, api.ErrShort
	}
	head := int(p[0]%16) * 4
	if head < 20 || head > len(p) || numberAt(p, 2) != len(p) {
		return seen{}, api.ErrLength
	}
	if slowSum(p[:head]) != 0 {
		return seen{}, api.ErrSum
	}
	if p[6] >= 128 {
		return seen{}, api.ErrForm
	}
	// Offset and MF are the lowest 14 bits.
	return seen{int(p[9]), p[12:16], p[16:20], p[head:], numberAt(p, 6)%16384 != 0, false}, api.OK
}

func slowSee6(p string) (seen, api.Errno) {
	if len(p) < 40 {
		return seen{}, api.ErrShort
	}
	if numberAt(p, 4) != len(p)-40 {
		return seen{}, api.ErrLength
	}
	return seen{int(p[6]), p[8:24], p[24:40], p[40:], false, true}, api.OK
}

// slowFault asks what is left once a packet is one.
func slowFault(s seen) api.Errno {
	if s.piece {
		return api.ErrFrag
	}
	if s.proto != 6 && s.proto != 17 {
		return api.ErrProto
	}
	if s.proto == 6 {
		if e := slowFaultTCP(s.payload); e != api.OK {
			return e
		}
	} else if len(s.payload) < 8 {
		return api.ErrShort
	} else if numberAt(s.payload, 4) != len(s.payload) {
		return api.ErrLength
	} else if numberAt(s.payload, 6) == 0 && s.six {
		return api.ErrSum
	} else if numberAt(s.payload, 6) == 0 {
		return api.OK
	}
	if slowSum(slowAhead(s.src, s.dst, s.proto, len(s.payload))+s.payload) != 0 {
		return api.ErrSum
	}
	return api.OK
}

func slowFaultTCP(b string) api.Errno {
	if len(b) < 20 {
		return api.ErrShort
	}
	head := int(b[12]/16) * 4
	if head < 20 || head > len(b) {
		return api.ErrLength
	}
	if b[12]%16 != 0 {
		return api.ErrForm
	}
	for options := b[20:head]; options != "" && options[0] != 0; {
		size := 1
		if options[0] != 1 {
			if len(options) < 2 || options[1] < 2 || int(options[1]) > len(options) {
				return api.ErrLength
			}
			size = int(options[1])
		}
		options = options[size:]
	}
	return api.OK
}

// mustGet holds Get against the slow one, and tells the error.
func mustGet(t *testing.T, p string) api.Errno {
	t.Helper()
	f, e := flow.Get(p)
	if wantF, want := slowGet(p); f != wantF || e != want {
		t.Fatalf("Get(%s): %#v, %v; want %#v, %v", shown(p), f, e, wantF, want)
	}
	return e
}

// mustBe says what flow Get must tell.
func mustBe(t *testing.T, why, p string, want api.Flow) {
	t.Helper()
	if f, e := flow.Get(p); f != want || e != api.OK {
		t.Errorf("%s: Get(%s): %#v, %v; want %#v", why, shown(p), f, e, want)
	}
}

// mustRefuse says what error Get must tell, with the zero flow.
func mustRefuse(t *testing.T, why, p string, want api.Errno) {
	t.Helper()
	if f, e := flow.Get(p); f != (api.Flow{}) || e != want {
		t.Errorf("%s: Get(%s): %#v, %v; want %v", why, shown(p), f, e, want)
	}
}

// mustSeal holds Seal against the slow one, and tells what it answered.
func mustSeal(t *testing.T, proto int, src, dst, payload string) string {
	t.Helper()
	s := flow.Seal(proto, src, dst, payload)
	if want := slowSeal(proto, src, dst, payload); s != want {
		t.Fatalf("Seal(%d, %s, %s, %s): %s; want %s", proto, shown(src), shown(dst), shown(payload), shown(s), shown(want))
	}
	return s
}

// summingToZero is a segment, or a datagram, whose sum comes out as 0.
func summingToZero(v version, k kind) string {
	b := withTwo(k.plain, 0, 0)
	n := slowSum(slowAhead(v.src, v.dst, k.proto, len(b)) + b)
	return withTwo(b, 0, n)
}

func shown(p string) string {
	const digits = "0123456789abcdef"
	var s strings.Builder
	for i := range min(len(p), 96) {
		s.WriteByte(digits[p[i]>>4])
		s.WriteByte(digits[p[i]&15])
	}
	if len(p) > 96 {
		s.WriteString("..")
	}
	return s.String()
}

func drawnText(draw *rand.Rand, length int) string {
	text := make([]byte, length)
	draw.Read(text)
	return string(text)
}
