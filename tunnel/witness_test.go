package tunnel_test

import (
	"fmt"
	"math"
	"math/rand"
	"strings"
	"testing"

	"palanquin/api"
	"palanquin/tunnel"
)

// Packets that are known byte by byte: a datagram "abc" in IPv4, and a segment in IPv6.
const (
	whole4 = "\x45\x00\x00\x1f\x00\x00\x40\x00\x40\x11\x26\xcc\x0a\x00\x00\x01\x0a\x00\x00\x02" +
		"\x9c\x40\x00\x35\x00\x0b\x8a\xfdabc"
	whole6 = "\x60\x00\x00\x00\x00\x14\x06\x40\x20\x01\x0d\xb8\x00\x00\x00\x00\x00\x00\x00\x00\x00\x00\x00\x01" +
		"\x20\x01\x0d\xb8\x00\x00\x00\x00\x00\x00\x00\x00\x00\x00\x00\x02" +
		"\x9c\x40\x00\x50\x00\x00\x00\x01\x00\x00\x00\x00\x50\x02\xfa\xf0\xbc\xeb\x00\x00"
)

// all is more bytes than any text of a test has.
const all = 1 << 20

// tunnels are of each Mode, with and without each thing that it may have.
func tunnels() []api.Tunnel {
	return []api.Tunnel{
		{Mode: 1, TTL: 64, TOS: 0xb8, DF: true},
		{Mode: 2, TTL: 63, TOS: 1},
		{Mode: 2, TTL: 62, TOS: 2, DF: true, Sum: true},
		{Mode: 2, TTL: 61, TOS: 3, Key: true, Value: 0x12345678},
		{Mode: 2, TTL: 60, TOS: 4, DF: true, Sum: true, Key: true, Value: 0x9abcdef0},
		{Mode: 2, Key: true},
		{Mode: 3, TTL: 59, TOS: 5},
		{Mode: 3, TTL: 58, TOS: 6, DF: true, Sum: true},
	}
}

// ways are one whose bytes are all unlike, the least and the greatest.
func ways() []tunnel.Way {
	return []tunnel.Way{
		{Src: "\xc0\x00\x02\x01", Dst: "\xc6\x33\x64\x09", ID: 0x1234, Port: 0xabcd},
		{Src: "\x00\x00\x00\x00", Dst: "\x00\x00\x00\x00"},
		{Src: "\xff\xff\xff\xff", Dst: "\xff\xff\xff\xff", ID: 65535, Port: 65535},
	}
}

// inners are packets of both versions, of even and odd numbers of bytes, which are none but for their first bits among them.
func inners() []string {
	packets := []string{whole4, whole6, whole4 + "d", whole6 + "d", "\x45" + whole6, "\x60" + whole4}
	for _, first := range []string{"\x40", "\x45", "\x4f", "\x60", "\x6f"} {
		for _, behind := range []string{
			"", "\x00", "\x01", "\xff", "ab", "abc", "\x00\x04\x00\x00\x45", "\x00\x00\x86\xdd", strings.Repeat("\x00", 20),
			strings.Repeat("\xff", 21), strings.Repeat("z", 65501), strings.Repeat("\xff", 65502),
		} {
			packets = append(packets, first+behind)
		}
	}
	return packets
}

// outside are numbers below 0 and above most, among them those that wrap round to one between.
func outside(most int) []int {
	return []int{
		-1, -2, -most, -most - 1, most + 1, most + 2, 2*most + 1, 2*most + 2, 1 << 20, 1 << 31, 1 << 32, 1<<32 + 1, -1 << 32, math.MaxInt, math.MinInt,
	}
}

// noModes are numbers beside 1, 2 and 3.
func noModes() []int {
	return []int{0, 4, 5, -1, -2, -3, 6, 17, 41, 47, 255, 256, 257, 1<<16 + 1, 1<<32 + 1, 1<<32 + 2, 1<<32 + 3, math.MaxInt, math.MinInt}
}

func slowCheck(t api.Tunnel) api.Errno {
	switch {
	case t.Mode < 1 || t.Mode > 3:
		return api.ErrMode
	case t.TTL < 0 || t.TTL > 255 || t.TOS < 0 || t.TOS > 255:
		return api.ErrRange
	case t.Mode == 1 && (t.Sum || t.Key || t.Value > 0), t.Mode == 2 && !t.Key && t.Value > 0, t.Mode == 3 && (t.Key || t.Value > 0):
		return api.ErrForm
	}
	return api.OK
}

// slowSize tells the sizes one by one.
func slowSize(t api.Tunnel) int {
	switch {
	case t.Mode == 1:
		return 20
	case t.Mode == 2 && t.Sum && t.Key:
		return 32
	case t.Mode == 2 && (t.Sum || t.Key):
		return 28
	case t.Mode == 2:
		return 24
	case t.Mode == 3:
		return 32
	}
	return 0
}

func slowWrap(t api.Tunnel, w tunnel.Way, inner string) (string, api.Errno) {
	e := slowCheck(t)
	switch {
	case e != api.OK:
	case len(w.Src) != 4 || len(w.Dst) != 4 || w.ID < 0 || w.ID > 65535 || w.Port < 0 || w.Port > 65535:
		e = api.ErrRange
	case inner == "":
		e = api.ErrShort
	case inner[0]/16 != 4 && inner[0]/16 != 6:
		e = api.ErrVersion
	case len(inner)+slowSize(t) > 65535:
		e = api.ErrLength
	default:
		return right(t, w, inner).text(), api.OK
	}
	return "", e
}

// made is what a wrapped packet is made of, right or wrong.
type made struct {
	t       api.Tunnel
	w       tunnel.Way
	six     bool // whether the packet is told as one of IPv6
	inner   string
	options string

	// Bits of the outer header that are turned: of its first byte, of the two with DF, of the protocol, and of its sum, once that is right.
	first, flags, proto, wrong int

	off int // how many bytes more it says to have

	// Bits behind it that are turned: of GRE's first two bytes, its kind, and the two behind its sum, or of GUE's first byte, its second, and
	// its last two; of the port 6080; and of the sum, once that is right.
	front, kind, behind, to, own int

	more int // how many bytes more a datagram says to have

	// How many bytes are left: of a datagram's payload, of what stands behind the outer header, and of all.
	few, cut, left int
}

// right is what is wrapped as it must be, of a packet of the version 4 or 6.
func right(t api.Tunnel, w tunnel.Way, inner string) made {
	return made{t: t, w: w, six: inner[0]/16 == 6, inner: inner, few: all, cut: all, left: all}
}

func (m made) text() string {
	b := m.inner
	switch m.t.Mode {
	case 2:
		b = m.behindGRE()
	case 3:
		b = m.behindGUE()
	}
	return first(m.left, m.outer(first(m.cut, b)))
}

func first(n int, b string) string { return b[:min(len(b), n)] }

// told is the number that a packet is told by.
func (m made) told(four, six int) int {
	if m.six {
		return six
	}
	return four
}

func (m made) behindGRE() string {
	b := two(bit(m.t.Sum)*32768^bit(m.t.Key)*8192^m.front) + two(m.told(0x0800, 0x86dd)^m.kind)
	if m.t.Sum {
		b += two(0) + two(m.behind)
	}
	if m.t.Key {
		b += two(int(m.t.Value/65536)) + two(int(m.t.Value%65536))
	}
	b += m.inner
	if m.t.Sum {
		b = withTwo(b, 4, slowSum(b)^m.own)
	}
	return b
}

func (m made) behindGUE() string {
	payload := first(m.few, byteText(m.front)+byteText(m.told(4, 41)^m.kind)+two(m.behind)+m.inner)
	b := two(m.w.Port) + two(6080^m.to) + two(len(payload)+8+m.more) + two(0) + payload
	if m.t.Sum {
		b = withTwo(b, 6, slowSeal(m.w, b)^m.own)
	}
	return b
}

// slowSeal is the sum of a datagram with 0 in the sum's place.
func slowSeal(w tunnel.Way, b string) int {
	if n := slowSum(w.Src + w.Dst + "\x00\x11" + two(len(b)) + b); n > 0 {
		return n
	}
	return 65535
}

// outer puts the outer header ahead of what stands behind it.
func (m made) outer(b string) string {
	proto := []int{m.told(4, 41), 47, 17}[m.t.Mode-1] ^ m.proto
	header := byteText(69+len(m.options)/4^m.first) + byteText(m.t.TOS) + two(20+len(m.options)+len(b)+m.off) + two(m.w.ID) +
		two(bit(m.t.DF)*16384^m.flags) + byteText(m.t.TTL) + byteText(proto) + two(0) + m.w.Src + m.w.Dst + m.options
	return withTwo(header, 10, slowSum(header)^m.wrong) + b
}

// slowUnwrap asks the chapters' questions of the bytes themselves, one by one.
func slowUnwrap(p string) (api.Tunnel, tunnel.Way, string, api.Errno) {
	if e := slowOuter(p); e != api.OK {
		return api.Tunnel{}, tunnel.Way{}, "", e
	}
	t := api.Tunnel{TOS: int(p[1]), TTL: int(p[8]), DF: p[6]/64%2 == 1}
	w := tunnel.Way{Src: p[12:16], Dst: p[16:20], ID: number(p, 4)}
	b := p[p[0]%16*4:]
	var inner string
	e := api.ErrProto
	switch p[9] {
	case 4, 41:
		t.Mode, inner, e = 1, b, slowPacket(b, p[9] == 41)
	case 47:
		t.Mode, t.Sum, t.Key = 2, b != "" && b[0] >= 128, b != "" && b[0]/32%2 == 1
		if e = slowGRE(t, b); e == api.OK {
			inner = b[slowSize(t)-20:]
		}
		if e == api.OK && t.Key {
			t.Value = uint32(number(b, len(b)-len(inner)-4)*65536 + number(b, len(b)-len(inner)-2))
		}
	case 17:
		t.Mode = 3
		if e = slowGUE(w, b); e == api.OK {
			w.Port, t.Sum, inner = number(b, 0), number(b, 6) > 0, b[12:]
		}
	}
	if e != api.OK {
		return api.Tunnel{}, tunnel.Way{}, "", e
	}
	return t, w, inner, api.OK
}

func slowOuter(p string) api.Errno {
	switch {
	case len(p) < 20:
		return api.ErrShort
	case p[0]/16 != 4:
		return api.ErrVersion
	case p[0]%16 < 5 || int(p[0]%16)*4 > len(p) || number(p, 2) != len(p):
		return api.ErrLength
	case slowSum(p[:p[0]%16*4]) != 0:
		return api.ErrSum
	case p[6] >= 128:
		return api.ErrForm
	case p[6]%64 != 0 || p[7] != 0:
		return api.ErrFrag
	}
	return api.OK
}

// slowGRE is handed a tunnel that has what the bits say.
func slowGRE(t api.Tunnel, b string) api.Errno {
	switch {
	case len(b) < 4:
		return api.ErrShort
	case b[1]%8 != 0:
		return api.ErrVersion
	case b[1] != 0 || b[0]%128 != 0 && b[0]%128 != 32:
		return api.ErrForm
	case len(b) < slowSize(t)-20:
		return api.ErrShort
	case t.Sum && number(b, 6) != 0:
		return api.ErrForm
	case t.Sum && slowSum(b) != 0:
		return api.ErrSum
	case number(b, 2) != 0x0800 && number(b, 2) != 0x86dd:
		return api.ErrProto
	}
	return slowPacket(b[slowSize(t)-20:], number(b, 2) == 0x86dd)
}

func slowGUE(w tunnel.Way, b string) api.Errno {
	switch {
	case len(b) < 8:
		return api.ErrShort
	case number(b, 4) != len(b):
		return api.ErrLength
	case number(b, 2) != 6080:
		return api.ErrProto
	case number(b, 6) > 0 && slowSum(w.Src+w.Dst+"\x00\x11"+two(len(b))+b) != 0:
		return api.ErrSum
	case len(b) < 12:
		return api.ErrShort
	case b[8] >= 64:
		return api.ErrVersion
	case b[8] != 0 || b[10] != 0 || b[11] != 0:
		return api.ErrForm
	case b[9] != 4 && b[9] != 41:
		return api.ErrProto
	}
	return slowPacket(b[12:], b[9] == 41)
}

func slowPacket(inner string, six bool) api.Errno {
	switch {
	case inner == "":
		return api.ErrShort
	case !six && inner[0]/16 != 4, six && inner[0]/16 != 6:
		return api.ErrVersion
	}
	return api.OK
}

// slowSum is the sum of a text: its numbers of two bytes, folded, turned over.
func slowSum(text string) int {
	if len(text)%2 == 1 {
		text += "\x00"
	}
	total := 0
	for i := 0; i < len(text); i += 2 {
		total += number(text, i)
	}
	for total > 65535 {
		total = total%65536 + total/65536
	}
	return 65535 - total
}

func number(b string, at int) int { return int(b[at])*256 + int(b[at+1]) }

func two(n int) string { return string([]byte{byte(n / 256), byte(n)}) }

// withTwo is b with a number of two bytes at a place, as far as it goes there.
func withTwo(b string, at, n int) string {
	if len(b) < at+2 {
		return b
	}
	return b[:at] + two(n) + b[at+2:]
}

func byteText(b int) string { return string([]byte{byte(b)}) }

// withByte is b with another byte at a place.
func withByte(b string, at int, x byte) string { return b[:at] + string([]byte{x}) + b[at+1:] }

func bit(on bool) int {
	if on {
		return 1
	}
	return 0
}

// back is the way that is told of a wrapped packet.
func back(t api.Tunnel, w tunnel.Way) tunnel.Way {
	if t.Mode != 3 {
		w.Port = 0
	}
	return w
}

// mustWrap holds Wrap against the slow one, and tells the packet.
func mustWrap(t *testing.T, x api.Tunnel, w tunnel.Way, inner string) string {
	t.Helper()
	p, e := tunnel.Wrap(x, w, inner)
	if want, no := slowWrap(x, w, inner); p != want || e != api.OK || no != api.OK {
		t.Fatalf("Wrap(%+v, %s, %s): %s, %v; want %s, %v", x, along(w), shown(inner), shown(p), e, shown(want), no)
	}
	return p
}

// mustNotWrap says what error Wrap must tell, with no text beside it.
func mustNotWrap(t *testing.T, x api.Tunnel, w tunnel.Way, inner string, want api.Errno) {
	t.Helper()
	if p, e := tunnel.Wrap(x, w, inner); p != "" || e != want {
		t.Errorf("Wrap(%+v, %s, %s): %s, %v; want nothing, %v", x, along(w), shown(inner), shown(p), e, want)
	}
}

// mustUnwrap holds Unwrap against the slow one, and tells the error.
func mustUnwrap(t *testing.T, p string) api.Errno {
	t.Helper()
	x, w, inner, e := tunnel.Unwrap(p)
	wantX, wantW, wantInner, want := slowUnwrap(p)
	if x != wantX || w != wantW || inner != wantInner || e != want {
		t.Fatalf("Unwrap(%s): %+v, %s, %s, %v; want %+v, %s, %s, %v", shown(p), x, along(w), shown(inner), e, wantX, along(wantW), shown(wantInner), want)
	}
	return e
}

// mustBe says what Unwrap must answer.
func mustBe(t *testing.T, p string, x api.Tunnel, w tunnel.Way, inner string) {
	t.Helper()
	gotX, gotW, got, e := tunnel.Unwrap(p)
	if gotX != x || gotW != back(x, w) || got != inner || e != api.OK {
		t.Errorf("Unwrap(%s): %+v, %s, %s, %v; want %+v, %s, %s", shown(p), gotX, along(gotW), shown(got), e, x, along(back(x, w)), shown(inner))
	}
}

// mustRefuse says what error Unwrap must tell, with zero values beside it.
func mustRefuse(t *testing.T, why, p string, want api.Errno) {
	t.Helper()
	if x, w, inner, e := tunnel.Unwrap(p); x != (api.Tunnel{}) || w != (tunnel.Way{}) || inner != "" || e != want {
		t.Errorf("%s: Unwrap(%s): %+v, %s, %s, %v; want zero values, %v", why, shown(p), x, along(w), shown(inner), e, want)
	}
}

func along(w tunnel.Way) string {
	return fmt.Sprintf("{%s to %s, ID %d, Port %d}", shown(w.Src), shown(w.Dst), w.ID, w.Port)
}

func shown(text string) string {
	if len(text) > 80 {
		return fmt.Sprintf("%x.. of %d bytes", text[:80], len(text))
	}
	return fmt.Sprintf("%x", text)
}

func drawnText(draw *rand.Rand, length int) string {
	text := make([]byte, length)
	draw.Read(text)
	return string(text)
}

// drawnInner is a packet of either version.
func drawnInner(draw *rand.Rand, most int) string {
	return byteText(64+32*draw.Intn(2)+draw.Intn(16)) + drawnText(draw, draw.Intn(most))
}

// drawnTunnel is one that may be.
func drawnTunnel(draw *rand.Rand) api.Tunnel {
	t := api.Tunnel{Mode: 1 + draw.Intn(3), TTL: draw.Intn(256), TOS: draw.Intn(256), DF: draw.Intn(2) == 1}
	t.Sum = t.Mode > 1 && draw.Intn(2) == 1
	t.Key = t.Mode == 2 && draw.Intn(2) == 1
	if t.Key {
		t.Value = draw.Uint32()
	}
	return t
}

func drawnWay(draw *rand.Rand) tunnel.Way {
	return tunnel.Way{Src: drawnText(draw, 4), Dst: drawnText(draw, 4), ID: draw.Intn(65536), Port: draw.Intn(65536)}
}
