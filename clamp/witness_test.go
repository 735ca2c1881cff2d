package clamp_test

import (
	"math/rand"
	"strings"
	"testing"

	"palanquin/api"
	"palanquin/clamp"
	"palanquin/flow"
)

// Addresses, every byte unlike the others.
const (
	src4 = "\x0a\x01\x02\x03"
	dst4 = "\xc0\xa8\xff\x04"
	src6 = "\x20\x01\x0d\xb8\x11\x12\x13\x14\x15\x16\x17\x18\x19\x1a\x1b\x1c"
	dst6 = "\xfe\x80\x00\x2f\x10\x21\x30\x40\x50\x60\x70\x81\x90\xa0\xb0\xc0"
)

const (
	syn     = 2
	mss1460 = "\x02\x04\x05\xb4"
)

// segment is what a test says of one; the rest is the same for all.
type segment struct {
	flags            int
	options, payload string
}

// plain is one that tells an MSS.
var plain = segment{flags: syn, options: mss1460, payload: "hello"}

// version is how packets of one version are put together here.
type version struct {
	name     string
	src, dst string
	head     int // how many bytes stand ahead of the payload here
	put      func(proto int, payload string) string
}

func versions() []version {
	return []version{
		{"IPv4", src4, dst4, 20, func(proto int, payload string) string { return slowPut4(proto, 0, "", payload) }},
		{"IPv4 with options", src4, dst4, 32, func(proto int, payload string) string {
			return slowPut4(proto, 0, "\x94\x04\x00\x00\x01\x01\x02\x04\x05\xb4\x01\x00", payload)
		}},
		{"IPv6", src6, dst6, 40, slowPut6},
	}
}

// eachVersion runs a test for packets of both versions, and for such as have options in their header, too.
func eachVersion(t *testing.T, test func(t *testing.T, v version)) {
	for _, v := range versions() {
		t.Run(v.name, func(t *testing.T) { test(t, v) })
	}
}

// of is a packet of TCP that is grammar-valid, if its options are right.
func (v version) of(s segment) string { return v.put(6, v.sealed(bytesOf(s))) }

// sealed is a segment with its sum.
func (v version) sealed(b string) string {
	return withTwo(b, 16, slowSum(slowAhead(v.src, v.dst, len(b))+withTwo(b, 16, 0)))
}

// bytesOf is a segment without its sum.
func bytesOf(s segment) string {
	b := "\x11\x22\x33\x44\x55\x66\x77\x88\x99\xaa\xbb\xcc" + string([]byte{byte(80 + 4*len(s.options)), byte(s.flags)})
	return b + "\xd0\xe1\x00\x00\x00\x05" + s.options + s.payload
}

// option is an MSS.
func option(n int) string { return "\x02\x04" + two(n) }

// padded is options, with blanks behind them up to whole words.
func padded(options string) string { return options + strings.Repeat("\x01", (4-len(options)%4)%4) }

func two(n int) string { return string([]byte{byte(n / 256 % 256), byte(n % 256)}) }

// withByte is p with another byte at a place.
func withByte(p string, at int, b byte) string { return p[:at] + string([]byte{b}) + p[at+1:] }

// withTwo is p with another number of two bytes at a place.
func withTwo(p string, at, n int) string { return p[:at] + two(n) + p[at+2:] }

func numberAt(p string, at int) int { return int(p[at])*256 + int(p[at+1]) }

// slowSum is the sum of a text, a byte 00 put behind an odd one.
func slowSum(text string) int {
	if len(text)%2 == 1 {
		text += "\x00"
	}
	total := 0
	for i := 0; i < len(text); i += 2 {
		total += numberAt(text, i)
	}
	for total > 65535 {
		total = total%65536 + total/65536
	}
	return 65535 - total
}

// slowAhead is the pseudo header of a segment.
func slowAhead(src, dst string, n int) string {
	if len(src) == 16 {
		return src + dst + two(n/65536) + two(n) + "\x00\x00\x00\x06"
	}
	return src + dst + "\x00\x06" + two(n)
}

// slowPut4 is a packet of IPv4 byte by byte.
func slowPut4(proto, flags int, options, payload string) string {
	b := string([]byte{byte(69 + len(options)/4), 0x17}) + two(20+len(options)+len(payload)) + "\x28\x36" + two(flags) + "\x66"
	return mended4(b + string([]byte{byte(proto)}) + "\x00\x00" + src4 + dst4 + options + payload)
}

// slowPut6 is a packet of IPv6 byte by byte.
func slowPut6(proto int, payload string) string {
	return "\x61\xe2\xd3\xc4" + two(len(payload)) + string([]byte{byte(proto), 0x66}) + src6 + dst6 + payload
}

// mended4 is a packet of IPv4 with its header's sum as it must be.
func mended4(p string) string { return withTwo(p, 10, slowSum(withTwo(p, 10, 0)[:int(p[0]%16)*4])) }

// slowHead is how many bytes a packet's header has, and its addresses are told, too.
func slowHead(p string) (head int, src, dst string) {
	if p[0]/16 == 4 {
		return int(p[0]%16) * 4, p[12:16], p[16:20]
	}
	return 40, p[8:24], p[24:40]
}

// slowFind is where in a packet the MSS stands; false, if there is none.
func slowFind(p string) (int, bool) {
	if f, e := flow.Get(p); e != api.OK || f.Proto != 6 {
		return 0, false
	}
	head, _, _ := slowHead(p)
	if p[head+13]/2%2 == 0 {
		return 0, false
	}
	end := head + int(p[head+12]/16)*4
	for at := head + 20; at < end && p[at] != 0; {
		if p[at] == 1 {
			at++
			continue
		}
		if p[at] == 2 && p[at+1] == 4 {
			return at + 2, true
		}
		at += int(p[at+1])
	}
	return 0, false
}

// slowClamp follows the chapter word for word.
func slowClamp(p string, limit int) string {
	if limit < 0 {
		limit = 0
	}
	if limit > 65535 {
		limit = 65535
	}
	at, ok := slowFind(p)
	if !ok || numberAt(p, at) <= limit {
		return p
	}
	head, src, dst := slowHead(p)
	p = withTwo(withTwo(p, at, limit), head+16, 0)
	return withTwo(p, head+16, slowSum(slowAhead(src, dst, len(p)-head)+p[head:]))
}

// mustClamp holds Clamp against the slow one, and tells the packet.
func mustClamp(t *testing.T, p string, limit int) string {
	t.Helper()
	q := clamp.Clamp(p, limit)
	if want := slowClamp(p, limit); q != want {
		t.Fatalf("Clamp(%s, %d): %s; want %s", shown(p), limit, shown(q), shown(want))
	}
	return q
}

// mustStay says that a packet is clamped by no limit, and tells no MSS.
func mustStay(t *testing.T, why, p string) {
	t.Helper()
	for _, limit := range []int{-1, 0, 1, 1459, 65535} {
		if q := clamp.Clamp(p, limit); q != p {
			t.Errorf("%s: Clamp(%s, %d): %s", why, shown(p), limit, shown(q))
		}
	}
	mustTell(t, why, p, 0, false)
}

// mustTell says what MSS must tell.
func mustTell(t *testing.T, why, p string, want int, wantOK bool) {
	t.Helper()
	if n, ok := clamp.MSS(p); n != want || ok != wantOK {
		t.Errorf("%s: MSS(%s): %d, %v; want %d, %v", why, shown(p), n, ok, want, wantOK)
	}
}

func shown(p string) string {
	const digits = "0123456789abcdef"
	var s strings.Builder
	for i := range min(len(p), 120) {
		s.WriteByte(digits[p[i]>>4])
		s.WriteByte(digits[p[i]&15])
	}
	if len(p) > 120 {
		s.WriteString("..")
	}
	return s.String()
}

func drawnText(draw *rand.Rand, length int) string {
	text := make([]byte, length)
	draw.Read(text)
	return string(text)
}
