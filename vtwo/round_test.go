package vtwo_test

import (
	"math/rand"
	"slices"
	"strings"
	"testing"
	"unsafe"

	"palanquin/api"
	"palanquin/vtwo"
)

// behinds are bytes of every kind that may stand behind a header: headers, beginnings of headers, fields and seals among them.
func behinds() []string {
	list := []string{
		"", "GET / HTTP/1.1\r\nHost: x\r\n\r\n", "PROXY UNKNOWN\r\n", sign, sign[:5], sign + "\x21", sign + "\x20\x00\x00", field(1, "a"), field(3, "abcd"), field(3, "\x00\x00\x00\x00"), field(3, ""), "\x03", "\x03\x00", endpoints(api.TCP6),
		strings.Repeat("\x00", 16), strings.Repeat("\x00", 65536), strings.Repeat("\xff", 65536), strings.Repeat("long", 1<<15),
	}
	for n := range 256 {
		list = append(list, byteText(byte(n)), byteText(byte(n))+"x\n")
	}
	for _, s := range talks() {
		list = append(list, slowPut(s, false), slowPut(s, true))
	}
	return list
}

// mustComeBack puts a header, gets it with nothing and with something behind it, and asks all beginnings for more.
func mustComeBack(t *testing.T, s api.Stream, seal bool, behind ...string) {
	t.Helper()
	b, e := vtwo.Put(s, seal)
	if e != api.OK {
		t.Fatalf("Put(%s, %v): %v", told(s), seal, e)
	}
	mustBe(t, "alone", b, s, seal, len(b))
	for _, x := range behind {
		mustBe(t, "with more behind", b+x, s, seal, len(b))
	}
	mustAskForMore(t, b)
}

// mustAskForMore asks every beginning of a header.
func mustAskForMore(t *testing.T, b string) {
	t.Helper()
	for size := range b {
		mustRefuse(t, "a beginning", b[:size], api.ErrMore)
	}
}

// P18.3: headers of each Family come back, with a seal and without, whatever stands behind them.
func TestEachHeaderComesBack(t *testing.T) {
	for _, s := range headers() {
		mustComeBack(t, s, false, behinds()...)
		mustComeBack(t, s, true, behinds()...)
	}
}

// P18.3: every port comes back in each of the two places, and every byte of an address in its own.
func TestEveryPortComesBack(t *testing.T) {
	for n := range 65536 {
		for _, s := range talks()[2:] {
			s.SrcPort, s.DstPort = n, n*3%65536
			seal := n%16 == 0
			b, e := vtwo.Put(s, seal)
			if e != api.OK {
				t.Fatalf("Put(%s): %v", told(s), e)
			}
			mustBe(t, "port", b+"\n", s, seal, len(b))
		}
	}
	for n := range 256 {
		for at := range 16 {
			mustComeBack(t, api.Stream{Family: api.UDP4, Src: withByte(plain4, at%4, byte(n)), Dst: withByte(other4, 3-at%4, byte(n))}, at%2 == 0)
			mustComeBack(t, api.Stream{Family: api.TCP6, Src: withByte(plain6, at, byte(n)), Dst: withByte(other6, 15-at, byte(n))}, at%2 == 0)
		}
	}
}

// P18.3: fields of every Type come back, in their order, with Texts of many lengths, that look like headers, fields and seals, too.
func TestEveryFieldComesBack(t *testing.T) {
	texts := []string{"", "a", "abcd", "\x00", "\x00\x00\x00\x00", field(3, "abcd"), field(3, ""), sign, example, strings.Repeat("\xff", 255), strings.Repeat("\x03", 256), strings.Repeat("t", 1000)}
	for _, s := range talks() {
		for n := range 256 {
			if n == 3 {
				continue
			}
			s.Fields = nil
			for i, text := range texts {
				if i%4 == n%4 {
					s.Fields = append(s.Fields, api.Field{Type: n, Text: text}, api.Field{Type: 255 - i, Text: text})
				}
			}
			b, e := vtwo.Put(s, n%2 == 0)
			if e != api.OK {
				t.Fatalf("Put(%s): %v", told(s), e)
			}
			mustBe(t, "fields", b+"x", s, n%2 == 0, len(b))
		}
	}
}

// P18.3: the longest come back, and every beginning of one asks for more.
func TestLongestComeBack(t *testing.T) {
	for _, s := range talks() {
		for _, long := range []api.Stream{withFollow(s, 65535-7), withFollow(s, 65535-7, make([]api.Field, 100)...)} {
			b, e := vtwo.Put(long, true)
			if e != api.OK || len(b) != 16+65535 {
				t.Fatalf("Put(%s): %d bytes, %v", told(long), len(b), e)
			}
			mustBe(t, "the longest", b+b, long, true, len(b))
		}
	}
	b, _ := vtwo.Put(withFollow(talks()[2], 65535), false)
	mustAskForMore(t, b)
}

// P18.3: drawn headers come back, with drawn bytes behind them.
func TestDrawnComeBack(t *testing.T) {
	draw := rand.New(rand.NewSource(188))
	for range 3000 {
		mustComeBack(t, drawnHeader(draw), draw.Intn(2) == 0, drawnText(draw, draw.Intn(200)))
	}
}

// P18.3: headers on end are got one by one, with the bytes behind the last one left.
func TestHeadersOnEnd(t *testing.T) {
	draw := rand.New(rand.NewSource(189))
	var list []api.Stream
	var b strings.Builder
	for i := range 500 {
		s := drawnHeader(draw)
		list = append(list, s)
		b.WriteString(slowPut(s, i%3 == 0))
	}
	rest := b.String() + "GET"
	for i, want := range list {
		s, seal, n, e := vtwo.Get(rest)
		if !same(s, want) || seal != (i%3 == 0) || e != api.OK {
			t.Fatalf("header %d: %s, %v, %v; want %s", i, told(s), seal, e, told(want))
		}
		rest = rest[n:]
	}
	if rest != "GET" {
		t.Errorf("%q is left", rest)
	}
}

// P18.2: what is got, put again, is what stood there, a seal being last.
func TestDrawnGoBack(t *testing.T) {
	draw := rand.New(rand.NewSource(190))
	for range 5000 {
		want := drawnHeader(draw)
		sealed := draw.Intn(2) == 0
		b := slowPut(want, sealed)
		s, seal, _, e := vtwo.Get(b + "x")
		if again, e2 := vtwo.Put(s, seal); again != b || e != api.OK || e2 != api.OK {
			t.Fatalf("%s became %s, %v, %v", shown(b), shown(again), e, e2)
		}
	}
}

// Rules 3 and 7: a header that is got shares no memory with what it was got from.
func TestGetSharesNoMemory(t *testing.T) {
	for _, want := range headers() {
		for _, seal := range []bool{false, true} {
			bytes := []byte(slowPut(want, seal) + "behind")
			text := unsafe.String(&bytes[0], len(bytes))
			s, _, _, e := vtwo.Get(text)
			for i := range bytes {
				bytes[i] ^= 0xa5
			}
			if e != api.OK || !same(s, want) {
				t.Errorf("got %s, %v; want %s", told(s), e, told(want))
			}
		}
	}
}

// Rule 3: what is put shares no memory with its header, and no two lists of answers share any.
func TestAnswersShareNoMemory(t *testing.T) {
	fields := []api.Field{{Type: 1, Text: "one"}, {Type: 2, Text: "two"}, {Type: 4}}
	for _, want := range talks() {
		want.Fields = slices.Clone(fields)
		b, _ := vtwo.Put(want, true)
		as := strings.Clone(b)
		one, _, _, _ := vtwo.Get(b)
		two, _, _, _ := vtwo.Get(b)
		for i := range one.Fields {
			one.Fields[i] = api.Field{Type: 9, Text: "changed"}
			want.Fields[i] = api.Field{Type: 8, Text: "changed"}
		}
		_ = append(one.Fields[:1], one.Fields...)
		want.Fields = fields
		if !same(two, want) || b != as {
			t.Errorf("%s, %s; want %s", shown(b), told(two), told(want))
		}
		three, _, _, e := vtwo.Get(b)
		if !same(three, want) || e != api.OK {
			t.Errorf("%s, %v; want %s", told(three), e, told(want))
		}
	}
}

// Rule 4: no call hangs on one before it.
func TestGetTwice(t *testing.T) {
	for range 3 {
		for _, s := range headers() {
			b := slowPut(s, true)
			mustBe(t, "again", b, s, true, len(b))
			mustRefuse(t, "between", b[:len(b)-1], api.ErrMore)
			mustRefuse(t, "between", withByte(b, len(b)-1, b[len(b)-1]^1), api.ErrSum)
			mustRefuse(t, "between", header(0x21, 0x00, field(3, "abcd")+field(3, "abcd")), api.ErrTwice)
			mustRefuse(t, "between", header(0x21, 0x00, field(4, "abcd")+"\x03"), api.ErrLength)
			mustRefuse(t, "between", "G", api.ErrSign)
			b = slowPut(s, false)
			mustBe(t, "again", b, s, false, len(b))
		}
	}
}
