package vtwo_test

import (
	"encoding/binary"
	"fmt"
	"hash/crc32"
	"math"
	"math/rand"
	"strings"
	"testing"

	"palanquin/api"
	"palanquin/vtwo"
)

// sign is what every header begins with.
const sign = "\x0d\x0a\x0d\x0a\x00\x0d\x0a\x51\x55\x49\x54\x0a"

// Addresses whose bytes are all unlike, and others.
const (
	plain4    = "\x01\x02\x03\x04"
	other4    = "\x05\x06\x07\x08"
	greatest4 = "\xff\xff\xff\xff"
	plain6    = "\x20\x01\x0d\xb8\x04\x05\x06\x07\x08\x09\x0a\x0b\x0c\x0d\x0e\x0f"
	other6    = "\x10\x11\x12\x13\x14\x15\x16\x17\x18\x19\x1a\x1b\x1c\x1d\x1e\x1f"
	least6    = "\x00\x00\x00\x00\x00\x00\x00\x00\x00\x00\x00\x00\x00\x00\x00\x00"
)

// example is the chapter's: Local, without fields.
const example = sign + "\x20\x00\x00\x00"

// codes are the families' by which each stands in a header.
var codes = map[int]byte{api.Unknown: 0x00, api.TCP4: 0x11, api.UDP4: 0x12, api.TCP6: 0x21, api.UDP6: 0x22}

// lengths are those of each family's addresses.
var lengths = map[int]int{api.Unknown: 0, api.TCP4: 4, api.UDP4: 4, api.TCP6: 16, api.UDP6: 16}

// talks are headers of each Family without fields, the Local one among them.
func talks() []api.Stream {
	return []api.Stream{
		{Local: true},
		{},
		{Family: api.TCP4, Src: plain4, Dst: other4, SrcPort: 0x090a, DstPort: 0x0b0c},
		{Family: api.UDP4, Src: greatest4, Dst: plain4, SrcPort: 65535, DstPort: 0},
		{Family: api.TCP6, Src: plain6, Dst: other6, SrcPort: 0, DstPort: 65535},
		{Family: api.UDP6, Src: other6, Dst: least6, SrcPort: 40000, DstPort: 443},
	}
}

// fieldLists are such as a header may have: none, one, many, empty ones, and such as look like a header or a seal within.
func fieldLists() [][]api.Field {
	return [][]api.Field{
		nil,
		{{Type: 4}},
		{{Type: 0, Text: "a"}},
		{{Type: 255, Text: "\x03\x00\x04abcd"}, {Type: 2, Text: "host"}, {Type: 2, Text: "host"}},
		{{Type: 1}, {Type: 2}, {}, {Type: 4, Text: sign}, {Type: 5, Text: example}},
		make([]api.Field, 300),
		{{Type: 32, Text: strings.Repeat("t", 255)}, {Type: 33, Text: strings.Repeat("u", 256)}, {Type: 34, Text: strings.Repeat("v", 257)}},
	}
}

// headers are each of the talks with each of the lists of fields.
func headers() []api.Stream {
	var list []api.Stream
	for _, s := range talks() {
		for _, fields := range fieldLists() {
			s.Fields = fields
			list = append(list, s)
		}
	}
	return list
}

// two is a number of two bytes.
func two(n int) string { return string([]byte{byte(n / 256), byte(n % 256)}) }

func byteText(b byte) string { return string([]byte{b}) }

// field is one's bytes.
func field(kind int, text string) string { return byteText(byte(kind)) + two(len(text)) + text }

// header is the sign, two bytes, and what follows, counted.
func header(bits, code byte, behind string) string {
	return sign + string([]byte{bits, code}) + two(len(behind)) + behind
}

// endpoints are addresses and ports, as bytes.
func endpoints(family int) string {
	n := lengths[family]
	if n == 0 {
		return ""
	}
	return plain6[:n] + other6[:n] + "\x01\x02\x03\x04"
}

// slowSum is the library's.
func slowSum(b string) uint32 { return crc32.Checksum([]byte(b), crc32.MakeTable(crc32.Castagnoli)) }

// numberOf is a text's sum, as bytes.
func numberOf(text string) string { return string(binary.BigEndian.AppendUint32(nil, slowSum(text))) }

// sealedAt is b with the right number at a place.
func sealedAt(b string, at int) string {
	return b[:at] + numberOf(b[:at]+"\x00\x00\x00\x00"+b[at+4:]) + b[at+4:]
}

// slowFollow tells how many bytes stand behind the first 16, of a header that may be bytes but for these.
func slowFollow(s api.Stream, seal bool) int {
	total := map[int]int{0: 0, 4: 12, 16: 36}[lengths[s.Family]]
	for _, f := range s.Fields {
		total += 3 + len(f.Text)
	}
	if seal {
		total += 7
	}
	return total
}

// slowCheck asks the chapter's questions about a header.
func slowCheck(s api.Stream, seal bool) api.Errno {
	length, known := lengths[s.Family]
	most := 65535
	if length == 0 {
		most = 0
	}
	if !known || s.Local && s.Family != 0 || len(s.Src) != length || len(s.Dst) != length {
		return api.ErrRange
	}
	if s.SrcPort < 0 || s.SrcPort > most || s.DstPort < 0 || s.DstPort > most {
		return api.ErrRange
	}
	for _, f := range s.Fields {
		if f.Type < 0 || f.Type == 3 || f.Type > 255 || len(f.Text) > 65535 {
			return api.ErrRange
		}
	}
	if slowFollow(s, seal) > 65535 {
		return api.ErrLength
	}
	return api.OK
}

// slowPut is the bytes of a header that may be bytes.
func slowPut(s api.Stream, seal bool) string {
	bits := byte(0x21)
	if s.Local {
		bits = 0x20
	}
	var behind strings.Builder
	if s.Family != api.Unknown {
		behind.WriteString(s.Src + s.Dst + two(s.SrcPort) + two(s.DstPort))
	}
	for _, f := range s.Fields {
		behind.WriteString(field(f.Type, f.Text))
	}
	if !seal {
		return header(bits, codes[s.Family], behind.String())
	}
	b := header(bits, codes[s.Family], behind.String()+field(3, "zero"))
	return sealedAt(b, len(b)-4)
}

// slowFront asks of the first 16 bytes one by one, and tells the family.
func slowFront(b string) (int, api.Errno) {
	family := -1
	for i := range 16 {
		switch {
		case i == len(b):
			return 0, api.ErrMore
		case i < 12 && b[i] != sign[i]:
			return 0, api.ErrSign
		case i == 12 && b[i]/16 != 2:
			return 0, api.ErrVersion
		case i == 12 && b[i]%16 > 1:
			return 0, api.ErrForm
		case i == 13:
			for n, code := range codes {
				if code == b[i] {
					family = n
				}
			}
			if family < 0 {
				return 0, api.ErrProto
			}
		}
	}
	return family, api.OK
}

// part is a field, and where its Text begins in the whole.
type part struct {
	api.Field
	at int
}

// slowParts are the fields of b from a place on, unless one goes behind the end.
func slowParts(b string, at int) ([]part, bool) {
	var parts []part
	for at != len(b) {
		if at+3 > len(b) {
			return nil, false
		}
		end := at + 3 + int(b[at+1])*256 + int(b[at+2])
		if end > len(b) {
			return nil, false
		}
		parts = append(parts, part{api.Field{Type: int(b[at]), Text: b[at+3 : end]}, at + 3})
		at = end
	}
	return parts, true
}

// slowSeals asks the questions about fields of the Type 3, each of all fields.
func slowSeals(b string, parts []part) (bool, api.Errno) {
	count := 0
	for _, x := range parts {
		if x.Type == 3 && len(x.Text) != 4 {
			return false, api.ErrLength
		}
	}
	for _, x := range parts {
		if x.Type == 3 {
			count++
		}
	}
	if count > 1 {
		return false, api.ErrTwice
	}
	for _, x := range parts {
		if x.Type == 3 && sealedAt(b, x.at) != b {
			return false, api.ErrSum
		}
	}
	return count == 1, api.OK
}

// slowGet asks the chapter's questions in its order.
func slowGet(b string) (api.Stream, bool, int, api.Errno) {
	family, e := slowFront(b)
	if e != api.OK {
		return api.Stream{}, false, 0, e
	}
	end := 16 + int(b[14])*256 + int(b[15])
	if len(b) < end {
		return api.Stream{}, false, 0, api.ErrMore
	}
	b = b[:end]
	n := lengths[family]
	at := 16
	if n > 0 {
		at += 2*n + 4
	}
	if at > len(b) {
		return api.Stream{}, false, 0, api.ErrLength
	}
	parts, ok := slowParts(b, at)
	if !ok {
		return api.Stream{}, false, 0, api.ErrLength
	}
	seal, e := slowSeals(b, parts)
	if e != api.OK {
		return api.Stream{}, false, 0, e
	}
	s := api.Stream{Local: b[12] == 0x20}
	if n > 0 && !s.Local {
		s.Family, s.Src, s.Dst = family, b[16:16+n], b[16+n:16+2*n]
		s.SrcPort, s.DstPort = int(b[at-4])*256+int(b[at-3]), int(b[at-2])*256+int(b[at-1])
	}
	for _, x := range parts {
		if x.Type != 3 {
			s.Fields = append(s.Fields, x.Field)
		}
	}
	return s, seal, end, api.OK
}

func same(a, b api.Stream) bool {
	if len(a.Fields) != len(b.Fields) {
		return false
	}
	for i := range a.Fields {
		if a.Fields[i] != b.Fields[i] {
			return false
		}
	}
	return a.Local == b.Local && a.Family == b.Family && a.Src == b.Src && a.Dst == b.Dst && a.SrcPort == b.SrcPort && a.DstPort == b.DstPort
}

// mustAsk holds Check and Put against the slow ones, and tells the error.
func mustAsk(t *testing.T, s api.Stream, seal bool) api.Errno {
	t.Helper()
	want, bytes := slowCheck(s, seal), ""
	if want == api.OK {
		bytes = slowPut(s, seal)
	}
	if e := vtwo.Check(s, seal); e != want {
		t.Fatalf("Check(%s, %v): %v, want %v", told(s), seal, e, want)
	}
	if b, e := vtwo.Put(s, seal); b != bytes || e != want {
		t.Fatalf("Put(%s, %v): %s, %v; want %s, %v", told(s), seal, shown(b), e, shown(bytes), want)
	}
	return want
}

// mustNotBe says what error Check and Put must tell of a header, with a seal and without.
func mustNotBe(t *testing.T, why string, s api.Stream, want api.Errno) {
	t.Helper()
	for _, seal := range []bool{false, true} {
		mustNotBeWith(t, why, s, seal, want)
	}
}

func mustNotBeWith(t *testing.T, why string, s api.Stream, seal bool, want api.Errno) {
	t.Helper()
	if e := vtwo.Check(s, seal); e != want {
		t.Errorf("%s: Check(%s, %v): %v, want %v", why, told(s), seal, e, want)
	}
	if b, e := vtwo.Put(s, seal); b != "" || e != want {
		t.Errorf("%s: Put(%s, %v): %s, %v; want nothing, %v", why, told(s), seal, shown(b), e, want)
	}
}

// mustGet holds Get against the slow one, and tells the error.
func mustGet(t *testing.T, b string) api.Errno {
	t.Helper()
	s, seal, n, e := vtwo.Get(b)
	wantS, wantSeal, wantN, want := slowGet(b)
	if !same(s, wantS) || seal != wantSeal || n != wantN || e != want {
		t.Fatalf("Get(%s): %s, %v, %d, %v; want %s, %v, %d, %v", shown(b), told(s), seal, n, e, told(wantS), wantSeal, wantN, want)
	}
	return e
}

// mustRefuse says what error Get must tell, with no header, no true and no number of bytes.
func mustRefuse(t *testing.T, why, b string, want api.Errno) {
	t.Helper()
	if s, seal, n, e := vtwo.Get(b); e != want || n != 0 || seal || !same(s, api.Stream{}) {
		t.Errorf("%s: Get(%s): %s, %v, %d, %v; want %v", why, shown(b), told(s), seal, n, e, want)
	}
}

// mustBe says what header Get must tell, whether with a seal, and of how many bytes.
func mustBe(t *testing.T, why, b string, want api.Stream, sealed bool, length int) {
	t.Helper()
	if s, seal, n, e := vtwo.Get(b); e != api.OK || n != length || seal != sealed || !same(s, want) {
		t.Errorf("%s: Get(%s): %s, %v, %d, %v; want %s, %v, %d", why, shown(b), told(s), seal, n, e, told(want), sealed, length)
	}
}

// told is a header, cut to what a message has room for.
func told(s api.Stream) string {
	var fields strings.Builder
	for _, f := range s.Fields[:min(len(s.Fields), 4)] {
		fmt.Fprintf(&fields, " %d:%s", f.Type, shown(f.Text))
	}
	return fmt.Sprintf("{Local %v, Family %d, %s, %s, %d, %d, %d Fields%s}", s.Local, s.Family, shown(s.Src), shown(s.Dst), s.SrcPort, s.DstPort, len(s.Fields), fields.String())
}

func shown(b string) string {
	if len(b) > 80 {
		return fmt.Sprintf("%x.. of %d bytes", b[:80], len(b))
	}
	return fmt.Sprintf("%x", b)
}

// withByte is b with another byte at a place.
func withByte(b string, at int, x byte) string { return b[:at] + byteText(x) + b[at+1:] }

// fitting are ports, the least and the greatest among them.
func fitting() []int {
	return []int{0, 1, 2, 255, 256, 257, 32767, 32768, 65534, 65535}
}

// tooFar are none, among them such as wrap round to one.
func tooFar() []int {
	return []int{-1, -2, -65535, -65536, 65536, 65537, 131071, 1 << 20, 1 << 31, 1 << 32, 1<<32 + 9, -1 << 32, math.MaxInt, math.MinInt, math.MinInt + 1}
}

// strange are Families that no header has.
func strange() []int {
	list := []int{1 << 8, 1<<8 + 1, 1 << 16, 1<<16 + 2, 1 << 32, 1<<32 + 1, 1<<32 + 2, -1 << 32, math.MaxInt, math.MinInt, math.MinInt + 1, math.MinInt + 2}
	for n := 1; n < 40; n++ {
		list = append(list, -n, 4+n)
	}
	return list
}

func drawnText(draw *rand.Rand, length int) string {
	text := make([]byte, length)
	draw.Read(text)
	return string(text)
}

// drawnFields are few, short ones mostly, of which none is of the Type 3.
func drawnFields(draw *rand.Rand) []api.Field {
	var fields []api.Field
	for range draw.Intn(6) {
		f := api.Field{Type: draw.Intn(256) >> draw.Intn(8), Text: drawnText(draw, draw.Intn(300)>>draw.Intn(9))}
		if f.Type != 3 {
			fields = append(fields, f)
		}
	}
	return fields
}

// drawnHeader is one that may be bytes.
func drawnHeader(draw *rand.Rand) api.Stream {
	s := api.Stream{Family: draw.Intn(5), Fields: drawnFields(draw)}
	if s.Family == api.Unknown {
		s.Local = draw.Intn(2) == 1
		return s
	}
	n := lengths[s.Family]
	s.Src, s.Dst = drawnText(draw, n), drawnText(draw, n)
	s.SrcPort, s.DstPort = draw.Intn(65536), draw.Intn(65536)
	return s
}
