package gre_test

import (
	"fmt"
	"math"
	"math/rand"
	"strings"
	"testing"

	"palanquin/api"
	"palanquin/gre"
)

// Packets that are known byte by byte: a datagram "abc" in IPv4, and a segment in IPv6.
const (
	whole4 = "\x45\x00\x00\x1f\x00\x00\x40\x00\x40\x11\x26\xcc\x0a\x00\x00\x01\x0a\x00\x00\x02" +
		"\x9c\x40\x00\x35\x00\x0b\x8a\xfdabc"
	whole6 = "\x60\x00\x00\x00\x00\x14\x06\x40\x20\x01\x0d\xb8\x00\x00\x00\x00\x00\x00\x00\x00\x00\x00\x00\x01" +
		"\x20\x01\x0d\xb8\x00\x00\x00\x00\x00\x00\x00\x00\x00\x00\x00\x02" +
		"\x9c\x40\x00\x50\x00\x00\x00\x01\x00\x00\x00\x00\x50\x02\xfa\xf0\xbc\xeb\x00\x00"
)

// heads are the four headers, with keys whose bytes are all unlike.
func heads() []gre.Head {
	return []gre.Head{{}, {Sum: true}, {Key: true, Value: 0x12345678}, {Sum: true, Key: true, Value: 0x9abcdef0}}
}

// keys are the least, the greatest, those beside them, each bit alone, and each bit missing.
func keys() []uint32 {
	values := []uint32{0, 1, 2, 0xff, 0x100, 0xffff, 0x10000, 0xffff0000, math.MaxInt32, math.MaxUint32 - 1, math.MaxUint32, 0x01020304}
	for bit := range 32 {
		values = append(values, 1<<bit, ^uint32(1<<bit))
	}
	return values
}

// inners are packets of both versions, of even and odd numbers of bytes, from one to more than a packet may have.
func inners() []string {
	packets := []string{whole4, whole6, whole4 + "d", whole6 + "d", "\x45" + whole6, "\x60" + whole4}
	for _, first := range []string{"\x40", "\x45", "\x4f", "\x60", "\x6f"} {
		for _, behind := range []string{
			"", "\x00", "\x01", "\xff", "ab", "abc", "\x00\x00\x08\x00\x45", "\xa0\x00\x86\xdd", strings.Repeat("\x00", 20),
			strings.Repeat("\xff", 21), strings.Repeat("z", 65534), strings.Repeat("\xff", 65535), strings.Repeat("y", 1<<17),
		} {
			packets = append(packets, first+behind)
		}
	}
	return packets
}

// slowSum is the sum of a text: its numbers of two bytes, folded, turned over.
func slowSum(text string) int {
	if len(text)%2 == 1 {
		text += "\x00"
	}
	total := 0
	for i := 0; i < len(text); i += 2 {
		total += int(text[i])*256 + int(text[i+1])
	}
	for total > 65535 {
		total = total%65536 + total/65536
	}
	return 65535 - total
}

// slowSize tells the four sizes one by one.
func slowSize(h gre.Head) int {
	switch {
	case h.Sum && h.Key:
		return 12
	case h.Sum || h.Key:
		return 8
	}
	return 4
}

// slowPut is a header and a packet byte by byte, of a packet that has a kind.
func slowPut(h gre.Head, inner string) string {
	return made{h: h, kind: kindOf(inner), inner: inner}.text()
}

// kindOf is 0800 or 86DD, of a packet of the version 4 or 6.
func kindOf(inner string) int {
	if inner[0]/16 == 4 {
		return 8 * 256
	}
	return 134*256 + 221
}

// made is what a text is made of, right or wrong.
type made struct {
	h      gre.Head
	turned int // bits of the first two bytes that are turned
	kind   int
	behind int // the two bytes behind the sum
	wrong  int // bits of the sum that are turned, once it is right
	inner  string
}

func (m made) text() string {
	first := m.turned
	if m.h.Sum {
		first ^= 32768
	}
	if m.h.Key {
		first ^= 8192
	}
	b := two(first) + two(m.kind)
	if m.h.Sum {
		b += two(0) + two(m.behind)
	}
	if m.h.Key {
		b += two(int(m.h.Value/65536)) + two(int(m.h.Value%65536))
	}
	b += m.inner
	if m.h.Sum {
		b = withSum(b, slowSum(b)^m.wrong)
	}
	return b
}

func two(n int) string { return string([]byte{byte(n / 256), byte(n % 256)}) }

// withSum is b with a number where a header that has a sum has it.
func withSum(b string, n int) string { return b[:4] + two(n) + b[6:] }

// sealed is b with the right sum there.
func sealed(b string) string { return withSum(b, slowSum(withSum(b, 0))) }

// slowGet asks the chapter's questions of the bytes themselves, one by one.
func slowGet(b string) (gre.Head, string, api.Errno) {
	var none gre.Head
	if len(b) < 4 {
		return none, "", api.ErrShort
	}
	if b[1]%8 != 0 {
		return none, "", api.ErrVersion
	}
	if b[1] != 0 || b[0] != 0 && b[0] != 128 && b[0] != 32 && b[0] != 160 {
		return none, "", api.ErrForm
	}
	h := gre.Head{Sum: b[0] >= 128, Key: b[0]%128 == 32}
	if len(b) < slowSize(h) {
		return none, "", api.ErrShort
	}
	if h.Sum && (b[6] != 0 || b[7] != 0) {
		return none, "", api.ErrForm
	}
	if h.Sum && slowSum(b) != 0 {
		return none, "", api.ErrSum
	}
	inner := b[slowSize(h):]
	if e := slowKind(b[2:4], inner); e != api.OK {
		return none, "", e
	}
	if h.Key {
		for _, x := range []byte(b[slowSize(h)-4 : slowSize(h)]) {
			h.Value = h.Value*256 + uint32(x)
		}
	}
	return h, inner, api.OK
}

func slowKind(kind, inner string) api.Errno {
	if kind != "\x08\x00" && kind != "\x86\xdd" {
		return api.ErrProto
	}
	if inner == "" {
		return api.ErrShort
	}
	first := inner[0] / 16
	if kind == "\x08\x00" && first != 4 || kind == "\x86\xdd" && first != 6 {
		return api.ErrVersion
	}
	return api.OK
}

// mustPut holds Put and Size against the slow ones, and tells the bytes.
func mustPut(t *testing.T, h gre.Head, inner string) string {
	t.Helper()
	b, e := gre.Put(h, inner)
	if want := slowPut(h, inner); b != want || e != api.OK {
		t.Fatalf("Put(%s, %s): %s, %v; want %s", told(h), shown(inner), shown(b), e, shown(want))
	}
	if n := gre.Size(h); n != slowSize(h) {
		t.Fatalf("Size(%s): %d, want %d", told(h), n, slowSize(h))
	}
	return b
}

// mustNotPut says what error Put must tell, with no text beside it.
func mustNotPut(t *testing.T, h gre.Head, inner string, want api.Errno) {
	t.Helper()
	if b, e := gre.Put(h, inner); b != "" || e != want {
		t.Errorf("Put(%s, %s): %s, %v; want nothing, %v", told(h), shown(inner), shown(b), e, want)
	}
}

// mustGet holds Get against the slow one, and tells the error.
func mustGet(t *testing.T, b string) api.Errno {
	t.Helper()
	h, inner, e := gre.Get(b)
	wantH, wantInner, want := slowGet(b)
	if h != wantH || inner != wantInner || e != want {
		t.Fatalf("Get(%s): %s, %s, %v; want %s, %s, %v", shown(b), told(h), shown(inner), e, told(wantH), shown(wantInner), want)
	}
	return e
}

// mustBe says what Get must answer.
func mustBe(t *testing.T, b string, h gre.Head, inner string) {
	t.Helper()
	if got, s, e := gre.Get(b); got != h || s != inner || e != api.OK {
		t.Errorf("Get(%s): %s, %s, %v; want %s, %s", shown(b), told(got), shown(s), e, told(h), shown(inner))
	}
}

// mustRefuse says what error Get must tell, with the zero header and no packet beside it.
func mustRefuse(t *testing.T, why, b string, want api.Errno) {
	t.Helper()
	if h, inner, e := gre.Get(b); h != (gre.Head{}) || inner != "" || e != want {
		t.Errorf("%s: Get(%s): %s, %s, %v; want zero values, %v", why, shown(b), told(h), shown(inner), e, want)
	}
}

func told(h gre.Head) string {
	return fmt.Sprintf("{Sum %v, Key %v, Value %#x}", h.Sum, h.Key, h.Value)
}

func shown(text string) string {
	const digits = "0123456789abcdef"
	var s strings.Builder
	for i := range min(len(text), 64) {
		s.WriteByte(digits[text[i]>>4])
		s.WriteByte(digits[text[i]&15])
	}
	if len(text) > 64 {
		s.WriteString("..")
	}
	return s.String()
}

func byteText(b int) string { return string([]byte{byte(b)}) }

// withByte is b with another byte at a place.
func withByte(b string, at int, x byte) string { return b[:at] + string([]byte{x}) + b[at+1:] }

func drawnText(draw *rand.Rand, length int) string {
	text := make([]byte, length)
	draw.Read(text)
	return string(text)
}

// drawnInner is a packet of either version.
func drawnInner(draw *rand.Rand, most int) string {
	return byteText(64+32*draw.Intn(2)+draw.Intn(16)) + drawnText(draw, draw.Intn(most))
}

// drawnHead has a key of K alone.
func drawnHead(draw *rand.Rand) gre.Head {
	h := gre.Head{Sum: draw.Intn(2) == 1, Key: draw.Intn(2) == 1}
	if h.Key {
		h.Value = draw.Uint32()
	}
	return h
}
