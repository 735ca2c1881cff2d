package gue_test

import (
	"fmt"
	"math"
	"math/rand"
	"strings"
	"testing"

	"palanquin/api"
	"palanquin/gue"
)

// Packets that are known byte by byte: a datagram "abc" in IPv4, and a segment in IPv6.
const (
	whole4 = "\x45\x00\x00\x1f\x00\x00\x40\x00\x40\x11\x26\xcc\x0a\x00\x00\x01\x0a\x00\x00\x02" +
		"\x9c\x40\x00\x35\x00\x0b\x8a\xfdabc"
	whole6 = "\x60\x00\x00\x00\x00\x14\x06\x40\x20\x01\x0d\xb8\x00\x00\x00\x00\x00\x00\x00\x00\x00\x00\x00\x01" +
		"\x20\x01\x0d\xb8\x00\x00\x00\x00\x00\x00\x00\x00\x00\x00\x00\x02" +
		"\x9c\x40\x00\x50\x00\x00\x00\x01\x00\x00\x00\x00\x50\x02\xfa\xf0\xbc\xeb\x00\x00"
)

// mostInner is how many bytes the longest packet has: 65535 less UDP's 8 and the header's 4.
const mostInner = 65523

// pair is between which addresses a datagram goes.
type pair struct{ src, dst string }

// pairs are addresses of 4 and of 16 bytes, those of zeros and of ones among them.
func pairs() []pair {
	return []pair{
		{"\x0a\x00\x00\x01", "\x0a\x01\x02\x03"},
		{"\x20\x01\x0d\xb8\x00\x00\x00\x00\x00\x00\x00\x00\x00\x00\x00\x01", "\x20\x01\x0d\xb8\xff\xee\xdd\xcc\xbb\xaa\x99\x88\x77\x66\x55\x44"},
		{"\x00\x00\x00\x00", "\x00\x00\x00\x00"},
		{"\xff\xff\xff\xff", "\xff\xff\xff\xff"},
		{strings.Repeat("\x00", 16), strings.Repeat("\xff", 16)},
	}
}

// ports are those that may be, the least and the greatest among them.
func ports() []int {
	return []int{0, 1, 2, 255, 256, 257, 6079, 6080, 6081, 32767, 32768, 49152, 65280, 65534, 65535}
}

// noPorts are numbers below and above, among them those that wrap round to one that may be.
func noPorts() []int {
	return []int{-1, -2, -256, -65535, -65536, 65536, 65537, 131071, 131072, 1 << 20, 1 << 31, 1 << 32, 1<<32 + 1, -1 << 32, math.MaxInt, math.MinInt}
}

// heads are one without a sum, and one with it, whose ports' bytes are unlike.
func heads() []gue.Head { return []gue.Head{{Port: 0x1234}, {Port: 0xabcd, Sum: true}} }

// inners are packets of both versions, of even and odd numbers of bytes, from one to as many as may be.
func inners() []string {
	packets := []string{whole4, whole6, whole4 + "d", whole6 + "d", "\x45" + whole6, "\x60" + whole4}
	for _, first := range []string{"\x40", "\x45", "\x4f", "\x60", "\x6f"} {
		for _, behind := range []string{
			"", "\x00", "\x01", "\xff", "ab", "abc", "\x00\x04\x00\x00\x45", "\x00\x29\x00\x00", strings.Repeat("\x00", 20),
			strings.Repeat("\xff", 21), strings.Repeat("z", mostInner-2), strings.Repeat("\xff", mostInner-1),
		} {
			packets = append(packets, first+behind)
		}
	}
	return packets
}

// slowSum is the sum of a text: its numbers of two bytes, folded, turned over.
func slowSum(text string) int {
	if len(text)%2 == 1 {
		text += "\x00"
	}
	total := 0
	for i := 0; i < len(text); i += 2 {
		total += int(text[i])*256 + int(text[i+1])
	}
	for total > 65535 {
		total = total%65536 + total/65536
	}
	return 65535 - total
}

// slowPseudo is what stands ahead of a datagram for its sum, by the length of src.
func slowPseudo(x pair, n int) string {
	if len(x.src) == 16 {
		return x.src + x.dst + two(n/65536) + two(n%65536) + "\x00\x00\x00\x11"
	}
	return x.src + x.dst + "\x00\x11" + two(n%65536)
}

// slowSeal is the sum that b's place for it is to have, which is never 0.
func slowSeal(x pair, b string) int {
	n := slowSum(slowPseudo(x, len(b)) + withSum(b, 0))
	if n == 0 {
		return 65535
	}
	return n
}

// made is what a datagram is made of, right or wrong.
type made struct {
	h      gue.Head
	x      pair
	to     int    // the port that it goes to
	header string // the bytes behind UDP's
	inner  string
	cut    int // how many bytes of the header and the packet there are, at most
	off    int // how far that which it says to have in all is off
	wrong  int // how far the sum is off
}

// right is what Put is to make, of a packet of the version 4 or 6.
func right(h gue.Head, x pair, inner string) made {
	return made{h: h, x: x, to: 6080, header: "\x00" + byteText(protoOf(inner)) + "\x00\x00", inner: inner, cut: math.MaxInt}
}

func protoOf(inner string) int {
	if inner[0]/16 == 4 {
		return 4
	}
	return 41
}

func (m made) text() string {
	payload := m.header + m.inner
	payload = payload[:min(len(payload), m.cut)]
	size := (8 + len(payload) + m.off) % 65536
	b := two(m.h.Port) + two(m.to) + two(size) + two(0) + payload
	if m.h.Sum {
		// Of the 65535 sums that aren't 0, which would be none, just one is right.
		b = withSum(b, 1+(slowSeal(m.x, b)-1+m.wrong)%65535)
	}
	return b
}

// slowPut is a datagram byte by byte.
func slowPut(h gue.Head, x pair, inner string) string { return right(h, x, inner).text() }

func two(n int) string { return string([]byte{byte(n / 256), byte(n % 256)}) }

func number(b string, at int) int { return int(b[at])*256 + int(b[at+1]) }

// withSum is b with a number where a datagram has its sum.
func withSum(b string, n int) string { return b[:6] + two(n) + b[8:] }

// sealed is b, saying how many bytes it has, with the right sum there.
func sealed(x pair, b string) string {
	b = b[:4] + two(len(b)) + b[6:]
	return withSum(b, slowSeal(x, b))
}

// slowGet asks the chapter's questions of the bytes themselves, one by one.
func slowGet(x pair, b string) (gue.Head, string, api.Errno) {
	refused := api.OK
	switch {
	case len(b) < 8:
		refused = api.ErrShort
	case number(b, 4) != len(b):
		refused = api.ErrLength
	case number(b, 2) != 6080:
		refused = api.ErrProto
	case number(b, 6) != 0 && slowSum(slowPseudo(x, len(b))+b) != 0:
		refused = api.ErrSum
	case len(b) < 12:
		refused = api.ErrShort
	case b[8] >= 64:
		refused = api.ErrVersion
	case b[8] != 0 || b[10] != 0 || b[11] != 0:
		refused = api.ErrForm
	case b[9] != 4 && b[9] != 41:
		refused = api.ErrProto
	case len(b) == 12:
		refused = api.ErrShort
	case b[9] == 4 && b[12]/16 != 4 || b[9] == 41 && b[12]/16 != 6:
		refused = api.ErrVersion
	}
	if refused != api.OK {
		return gue.Head{}, "", refused
	}
	return gue.Head{Port: number(b, 0), Sum: number(b, 6) != 0}, b[12:], api.OK
}

// mustPut holds Put against the slow one, and tells the bytes.
func mustPut(t *testing.T, h gue.Head, x pair, inner string) string {
	t.Helper()
	b, e := gue.Put(h, x.src, x.dst, inner)
	if want := slowPut(h, x, inner); b != want || e != api.OK {
		t.Fatalf("Put(%s, %s, %s): %s, %v; want %s", told(h), between(x), shown(inner), shown(b), e, shown(want))
	}
	return b
}

// mustNotPut says what error Put must tell, with no text beside it.
func mustNotPut(t *testing.T, h gue.Head, x pair, inner string, want api.Errno) {
	t.Helper()
	if b, e := gue.Put(h, x.src, x.dst, inner); b != "" || e != want {
		t.Errorf("Put(%s, %s, %s): %s, %v; want nothing, %v", told(h), between(x), shown(inner), shown(b), e, want)
	}
}

// mustGet holds Get against the slow one, and tells the error.
func mustGet(t *testing.T, x pair, b string) api.Errno {
	t.Helper()
	h, inner, e := gue.Get(x.src, x.dst, b)
	wantH, wantInner, want := slowGet(x, b)
	if h != wantH || inner != wantInner || e != want {
		t.Fatalf("Get(%s, %s): %s, %s, %v; want %s, %s, %v", between(x), shown(b), told(h), shown(inner), e, told(wantH), shown(wantInner), want)
	}
	return e
}

// mustBe says what Get must answer.
func mustBe(t *testing.T, x pair, b string, h gue.Head, inner string) {
	t.Helper()
	if got, s, e := gue.Get(x.src, x.dst, b); got != h || s != inner || e != api.OK {
		t.Errorf("Get(%s, %s): %s, %s, %v; want %s, %s", between(x), shown(b), told(got), shown(s), e, told(h), shown(inner))
	}
}

// mustRefuse says what error Get must tell, with the zero header and no packet beside it.
func mustRefuse(t *testing.T, why string, x pair, b string, want api.Errno) {
	t.Helper()
	if h, inner, e := gue.Get(x.src, x.dst, b); h != (gue.Head{}) || inner != "" || e != want {
		t.Errorf("%s: Get(%s, %s): %s, %s, %v; want zero values, %v", why, between(x), shown(b), told(h), shown(inner), e, want)
	}
}

func told(h gue.Head) string { return fmt.Sprintf("{Port %d, Sum %v}", h.Port, h.Sum) }

func between(x pair) string { return shown(x.src) + " to " + shown(x.dst) }

func shown(text string) string {
	if len(text) > 64 {
		return fmt.Sprintf("%x.. of %d bytes", text[:64], len(text))
	}
	return fmt.Sprintf("%x", text)
}

func byteText(b int) string { return string([]byte{byte(b)}) }

// withByte is b with another byte at a place.
func withByte(b string, at int, x byte) string { return b[:at] + string([]byte{x}) + b[at+1:] }

func drawnText(draw *rand.Rand, length int) string {
	text := make([]byte, length)
	draw.Read(text)
	return string(text)
}

// drawnInner is a packet of either version.
func drawnInner(draw *rand.Rand, most int) string {
	return byteText(64+32*draw.Intn(2)+draw.Intn(16)) + drawnText(draw, draw.Intn(most))
}

func drawnHead(draw *rand.Rand) gue.Head {
	return gue.Head{Port: draw.Intn(65536), Sum: draw.Intn(2) == 1}
}

func drawnPair(draw *rand.Rand) pair {
	length := 4 + 12*draw.Intn(2)
	return pair{drawnText(draw, length), drawnText(draw, length)}
}
