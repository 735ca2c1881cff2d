package sum_test

import (
	"math/big"
	"strings"
	"testing"

	"palanquin/sum"
)

// slow is the chapter's word for word: all parts in one text, padded, added whole, folded at the end.
func slow(parts ...string) int {
	text := strings.Join(parts, "")
	if len(text)%2 == 1 {
		text += "\x00"
	}
	total := new(big.Int)
	for i := 0; i < len(text); i += 2 {
		total.Add(total, big.NewInt(int64(text[i])*256+int64(text[i+1])))
	}
	return foldedAndTurned(total)
}

func foldedAndTurned(total *big.Int) int {
	lowest := big.NewInt(0xffff)
	for total.Cmp(lowest) > 0 {
		low := new(big.Int).And(total, lowest)
		total.Add(low, new(big.Int).Rsh(total, 16))
	}
	return 0xffff - int(total.Int64())
}

// draws tells the same numbers at every run.
func draws(seed uint64) func(n int) int {
	return func(n int) int {
		seed = seed*6364136223846793005 + 1442695040888963407
		return int((seed >> 33) % uint64(n))
	}
}

func drawnText(draw func(n int) int, length int) string {
	text := make([]byte, length)
	for i := range text {
		text[i] = byte(draw(256))
	}
	return string(text)
}

func TestSumOfOneText(t *testing.T) {
	for _, c := range []struct {
		name, text string
		want       int
	}{
		{"empty", "", 0xffff},
		{"the chapter's", "\x45\x00", 0xbaff},
		{"one byte, 00 behind it", "\x45", 0xbaff},
		{"three bytes", "\x01\x02\x03", 0xfbfd},
		{"higher byte first", "\x00\x01", 0xfffe},
		{"bytes 00 alone", "\x00\x00\x00\x00", 0xffff},
		{"all ones", "\xff\xff", 0},
		{"a carry", "\xff\xff\x00\x01", 0xfffe},
		{"a carry that carries", "\xff\xff\xff\xff\x00\x01", 0xfffe},
		{"no byte is a rune", "\xc3\xa9\xff\x00", 0x3d55},
		{"a header with its sum", "\x45\x00\x00\x73\x00\x00\x40\x00\x40\x11\xb8\x61\xc0\xa8\x00\x01\xc0\xa8\x00\xc7", 0},
		{"a header without", "\x45\x00\x00\x73\x00\x00\x40\x00\x40\x11\x00\x00\xc0\xa8\x00\x01\xc0\xa8\x00\xc7", 0xb861},
	} {
		if got := sum.Sum(c.text); got != c.want {
			t.Errorf("%s: Sum %#x, want %#x", c.name, got, c.want)
		}
		if got := sum.Right(c.text); got != (c.want == 0) {
			t.Errorf("%s: Right %v", c.name, got)
		}
	}
}

func TestSumOfNoPart(t *testing.T) {
	for _, parts := range [][]string{nil, {}, {""}, {"", "", ""}} {
		if got := sum.Sum(parts...); got != 0xffff {
			t.Errorf("%q: Sum %#x", parts, got)
		}
		if sum.Right(parts...) {
			t.Errorf("%q: Right", parts)
		}
	}
}

func TestSumFoldsMoreThanOnce(t *testing.T) {
	// 65537 numbers FFFF and one 0001: folded once, the total has still more than 16 bits.
	long := strings.Repeat("\xff\xff", 0x10001)
	if got := sum.Sum(long + "\x00\x01"); got != 0xfffe {
		t.Errorf("one text: %#x", got)
	}
	if got := sum.Sum(long, "\x00\x01"); got != 0xfffe {
		t.Errorf("two parts: %#x", got)
	}
	if !sum.Right(long, long) {
		t.Error("all ones, twice, aren't right")
	}
}

func TestSumOfLongTexts(t *testing.T) {
	for _, length := range []int{65534, 65535, 65536, 1 << 20, 1<<20 + 1} {
		text := drawnText(draws(uint64(length)), length)
		if got, want := sum.Sum(text), slow(text); got != want {
			t.Errorf("%d bytes: %#x, want %#x", length, got, want)
		}
	}
}

func TestSumOfPartsCutAnywhere(t *testing.T) {
	text := "\x00\x01\xf2\x03\xf4\xf5\xf6\xf7\x81"
	want := slow(text)
	for i := 0; i <= len(text); i++ {
		for j := i; j <= len(text); j++ {
			parts := []string{text[:i], text[i:j], "", text[j:]}
			if got := sum.Sum(parts...); got != want {
				t.Errorf("%q: %#x, want %#x", parts, got, want)
			}
		}
	}
}

func TestSumOfDrawnParts(t *testing.T) {
	draw := draws(2)
	for range 2000 {
		parts := make([]string, draw(6))
		for i := range parts {
			parts[i] = drawnText(draw, draw(40))
		}
		got, want := sum.Sum(parts...), slow(parts...)
		if got != want {
			t.Fatalf("%q: %#x, want %#x", parts, got, want)
		}
		if sum.Right(parts...) != (want == 0) {
			t.Fatalf("%q: Right with a sum of %#x", parts, want)
		}
	}
}

func TestRightOfATextWithItsSum(t *testing.T) {
	draw := draws(3)
	for range 500 {
		text := drawnText(draw, 2*draw(30))
		own := sum.Sum(text)
		if !sum.Right(text, string([]byte{byte(own >> 8), byte(own)})) {
			t.Fatalf("%q with %#x behind it isn't right", text, own)
		}
		if off := own ^ 1<<draw(16); sum.Right(text, string([]byte{byte(off >> 8), byte(off)})) {
			t.Fatalf("%q with %#x behind it is right", text, off)
		}
	}
}

func TestPartsStayAsTheyWere(t *testing.T) {
	parts := []string{"\x01", "\x02\x03", "spare"}
	first := sum.Sum(parts[:2]...)
	if parts[0] != "\x01" || parts[1] != "\x02\x03" || parts[2] != "spare" {
		t.Errorf("changed: %q", parts)
	}
	if again := sum.Sum(parts[:2]...); again != first {
		t.Errorf("%#x, then %#x", first, again)
	}
}

func TestUpdate(t *testing.T) {
	for _, c := range []struct {
		name                  string
		sum, old, fresh, want int
	}{
		{"one more", 0xbaff, 0x4500, 0x4501, 0xbafe},
		{"one less", 0xbaff, 0x4500, 0x44ff, 0xbb00},
		{"the same", 0xbaff, 0x4500, 0x4500, 0xbaff},
		{"down to 0", 0xdd2f, 0x5555, 0x3285, 0},
		{"all 0", 0, 0, 0, 0},
		{"all ones", 0xffff, 0xffff, 0xffff, 0},
		{"all ones out", 0xffff, 0xffff, 0, 0xffff},
		{"a carry that carries", 0, 0, 1, 0xfffe},
		{"two carries", 0, 0, 0xffff, 0},
		{"wide numbers", 0x1baff, 0x24500, 0x34501, 0xbafe},
		{"a wide sum", 0x7fffffff0000baff, 0x4500, 0x4501, 0xbafe},
		{"a wide old", 0xbaff, 0x7fffffff00004500, 0x4501, 0xbafe},
		{"a wide fresh", 0xbaff, 0x4500, 0x7fffffff00004501, 0xbafe},
		{"a sum below 0", -0x10000 + 0xbaff, 0x4500, 0x4501, 0xbafe},
		{"an old below 0", 0xbaff, -0x10000 + 0x4500, 0x4501, 0xbafe},
		{"a fresh below 0", 0xbaff, 0x4500, -0x10000 + 0x4501, 0xbafe},
		{"all -1", -1, -1, -1, 0},
		{"the lowest ints", -1 << 63, -1 << 63, -1 << 63, 0},
		{"the highest ints", 1<<63 - 1, 1<<63 - 1, 1<<63 - 1, 0},
	} {
		if got := sum.Update(c.sum, c.old, c.fresh); got != c.want {
			t.Errorf("%s: %#x, want %#x", c.name, got, c.want)
		}
	}
}

func TestUpdateWordForWord(t *testing.T) {
	draw := draws(4)
	for range 20000 {
		s, old, fresh := draw(1<<31)-1<<30, draw(1<<31)-1<<30, draw(1<<31)-1<<30
		low := func(n int) int64 { return int64(uint16(n)) }
		total := big.NewInt(0xffff - low(s) + 0xffff - low(old) + low(fresh))
		if got, want := sum.Update(s, old, fresh), foldedAndTurned(total); got != want {
			t.Fatalf("Update(%d, %d, %d): %#x, want %#x", s, old, fresh, got, want)
		}
	}
}

func TestUpdateIsTheSumOfTheChangedText(t *testing.T) {
	draw := draws(5)
	for range 2000 {
		// The first byte stays above 00, so that neither text is all 00.
		text := []byte("\x01\x00" + drawnText(draw, 2+2*draw(20)))
		at := 2 + 2*draw(len(text)/2-1)
		before := sum.Sum(string(text))
		old, fresh := int(text[at])<<8|int(text[at+1]), draw(0x10000)
		text[at], text[at+1] = byte(fresh>>8), byte(fresh)
		if got, want := sum.Update(before, old, fresh), sum.Sum(string(text)); got != want {
			t.Fatalf("%q at %d: %#x, want %#x", text, at, got, want)
		}
	}
}

func TestPseudo(t *testing.T) {
	const sixteen = "0123456789abcdef"
	for _, c := range []struct {
		name, src, dst string
		proto, n       int
		want           string
	}{
		{"IPv4", "abcd", "efgh", 17, 0x0203, "abcdefgh\x00\x11\x02\x03"},
		{"IPv6", sixteen, "ABCDEFGHIJKLMNOP", 6, 0x01020304, sixteen + "ABCDEFGHIJKLMNOP\x01\x02\x03\x04\x00\x00\x00\x06"},
		{"IPv4, wide numbers", "abcd", "efgh", 0x1ff06, 0x7010203, "abcdefgh\x00\x06\x02\x03"},
		{"IPv6, wide numbers", sixteen, "x", 0x1ff06, 0x0701020304, sixteen + "x\x01\x02\x03\x04\x00\x00\x00\x06"},
		{"IPv4, numbers below 0", "abcd", "efgh", -1, -2, "abcdefgh\x00\xff\xff\xfe"},
		{"IPv6, numbers below 0", sixteen, "x", -1, -2, sixteen + "x\xff\xff\xff\xfe\x00\x00\x00\xff"},
		{"nothing", "", "", 0, 0, "\x00\x00\x00\x00"},
		{"src of 15 bytes", sixteen[:15], sixteen, 6, 0x01020304, sixteen[:15] + sixteen + "\x00\x06\x03\x04"},
		{"src of 17 bytes", sixteen + "g", sixteen, 6, 0x01020304, sixteen + "g" + sixteen + "\x00\x06\x03\x04"},
		{"src of 4 bytes, dst of 16", "abcd", sixteen, 6, 0x01020304, "abcd" + sixteen + "\x00\x06\x03\x04"},
		{"src of 16 bytes, dst of none", sixteen, "", 17, 8, sixteen + "\x00\x00\x00\x08\x00\x00\x00\x11"},
		{"bytes, not runes", "\xff\xfe\xc3\x28", "\x00\x80\x81\x82", 6, 20, "\xff\xfe\xc3\x28\x00\x80\x81\x82\x00\x06\x00\x14"},
	} {
		if got := sum.Pseudo(c.src, c.dst, c.proto, c.n); got != c.want {
			t.Errorf("%s: %q, want %q", c.name, got, c.want)
		}
	}
}

func TestPseudoAheadOfASegment(t *testing.T) {
	// A UDP datagram of 8 bytes without payload, from 10.0.0.1:1 to 10.0.0.2:2.
	ahead := sum.Pseudo("\x0a\x00\x00\x01", "\x0a\x00\x00\x02", 17, 8)
	if got := sum.Sum(ahead, "\x00\x01\x00\x02\x00\x08\x00\x00"); got != 0xebd8 {
		t.Errorf("%#x", got)
	}
}
