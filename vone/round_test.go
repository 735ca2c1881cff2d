package vone_test

import (
	"math/rand"
	"strings"
	"testing"

	"palanquin/api"
	"palanquin/vone"
)

// behinds are bytes of every kind that may stand behind a line: byte 10, lines and beginnings of lines among them.
func behinds() []string {
	list := []string{
		"", "GET / HTTP/1.1\r\nHost: x\r\n\r\n", "\r", "\r\n", "\n\r", "\n\n\n", "\r\r\n", " ", " \r\n", "PROXY", "PROXY ", "PROXY UNKNOWN", "PROXY UNKNOWN\r", "\x00\x00", "\xff\xfe\xfd",
		"\r\n\r\n\x00\r\nQUIT\n\x20\x00\x00\x00", strings.Repeat("x", 74), strings.Repeat("x", 107), strings.Repeat("\n", 107), strings.Repeat("\r\n", 200), strings.Repeat("long", 1<<14),
	}
	for n := range 256 {
		list = append(list, string([]byte{byte(n)}), string([]byte{byte(n)})+"x\n")
	}
	return append(list, lines()...)
}

// mustComeBack puts a header, gets it with nothing and with something behind it, and asks all beginnings for more.
func mustComeBack(t *testing.T, s api.Stream, behind string) {
	t.Helper()
	b, e := vone.Put(s)
	if e != api.OK {
		t.Fatalf("Put(%s): %v", told(s), e)
	}
	mustBe(t, "alone", b, s, len(b))
	mustBe(t, "with more behind", b+behind, s, len(b))
	mustAskForMore(t, b)
}

// mustAskForMore asks every beginning of a line.
func mustAskForMore(t *testing.T, line string) {
	t.Helper()
	for size := range line {
		mustRefuse(t, "a beginning", line[:size], api.ErrMore)
	}
}

// mustGoBack gets a line, and puts what it got.
func mustGoBack(t *testing.T, line string) {
	t.Helper()
	s, n, e := vone.Get(line)
	if e != api.OK || n != len(line) || vone.Check(s) != api.OK {
		t.Fatalf("Get(%s): %s, %d, %v", shown(line), told(s), n, e)
	}
	want := line
	if s.Family == api.Unknown {
		// Nothing of what stands behind UNKNOWN is told.
		want = "PROXY UNKNOWN\r\n"
	}
	if again, e := vone.Put(s); again != want || e != api.OK {
		t.Fatalf("%s became %s, %v", shown(line), shown(again), e)
	}
}

// P17.3: a header of each Family comes back, whatever stands behind it.
func TestEachHeaderComesBack(t *testing.T) {
	for _, s := range headers() {
		for _, behind := range behinds() {
			mustComeBack(t, s, behind)
		}
	}
}

// P17.3: every port comes back in each of the two places.
func TestEveryPortComesBack(t *testing.T) {
	for n := range 65536 {
		for _, s := range []api.Stream{
			{Family: api.TCP4, Src: plain4, Dst: other4, SrcPort: n, DstPort: 7},
			{Family: api.TCP4, Src: plain4, Dst: other4, SrcPort: 7, DstPort: n},
			{Family: api.TCP6, Src: plain6, Dst: other6, SrcPort: n, DstPort: 7},
			{Family: api.TCP6, Src: plain6, Dst: other6, SrcPort: 7, DstPort: n},
		} {
			b, e := vone.Put(s)
			if e != api.OK {
				t.Fatalf("Put(%s): %v", told(s), e)
			}
			mustBe(t, "port", b+"\n", s, len(b))
		}
	}
}

// P17.3: addresses with every row of noughts come back in both places.
func TestEveryRowOfNoughtsComesBack(t *testing.T) {
	for mask := range 256 {
		address := make([]byte, 16)
		for i := range 8 {
			if mask>>i&1 == 1 {
				address[2*i], address[2*i+1] = byte(i), byte(mask)
			}
		}
		mustComeBack(t, api.Stream{Family: api.TCP6, Src: string(address), Dst: plain6, DstPort: mask}, "\n")
		mustComeBack(t, api.Stream{Family: api.TCP6, Src: greatest6, Dst: string(address), SrcPort: mask}, "x")
	}
}

// P17.3: drawn headers come back, with drawn bytes behind them.
func TestDrawnComeBack(t *testing.T) {
	draw := rand.New(rand.NewSource(176))
	for range 10000 {
		mustComeBack(t, drawnHeader(draw), drawnText(draw, draw.Intn(200)))
	}
}

// P17.3: every beginning of a line that isn't all of it asks for more, whatever stands behind UNKNOWN.
func TestBeginningsAskForMore(t *testing.T) {
	for _, line := range append(lines(), example, "PROXY UNKNOWN \r\n", "PROXY UNKNOWN \r\r\r\n", "PROXY UNKNOWN"+strings.Repeat(" ", 92)+"\r\n", "PROXY UNKNOWN "+strings.Repeat("\r", 91)+"\r\n", "PROXY UNKNOWN "+strings.Repeat("\x00\xff", 45)+"\r\n") {
		mustGoBack(t, line)
		mustAskForMore(t, line)
	}
	draw := rand.New(rand.NewSource(177))
	for range 3000 {
		mustAskForMore(t, "PROXY UNKNOWN "+strings.ReplaceAll(drawnText(draw, draw.Intn(92)), "\n", " ")+"\r\n")
	}
}

// P17.3: a beginning of what is no line asks for more, too, as long as its sign may come and it has no byte 10.
func TestBeginningsOfNoLineAskForMore(t *testing.T) {
	for _, text := range []string{"PROXY \r", "PROXY UNKNOWNS\r", "PROXY TCP4 x y z\r", "PROXY  \r\r\r", "PROXY " + strings.Repeat("x", 100)} {
		mustAskForMore(t, text+"\n")
	}
}

// P17.2: what is got, put again, is what stood there, but behind UNKNOWN.
func TestLinesGoBack(t *testing.T) {
	draw := rand.New(rand.NewSource(178))
	for _, line := range lines() {
		mustGoBack(t, line)
	}
	for _, behind := range []string{"", " ", "  ", " x", " \r", " 1.2.3.4 5.6.7.8 9 10", strings.Repeat(" ", 92)} {
		mustGoBack(t, "PROXY UNKNOWN"+behind+"\r\n")
	}
	for range 20000 {
		mustGoBack(t, slowLine(drawnHeader(draw)))
	}
}

// P17.2: whatever is taken, of drawn texts that are nearly lines, goes back.
func TestDrawnGoBack(t *testing.T) {
	draw := rand.New(rand.NewSource(179))
	letters := "0123456789abcdef.: "
	taken := 0
	for range 200000 {
		b := slowLine(drawnHeader(draw))
		at := 6 + draw.Intn(len(b)-8)
		b = withByte(b, at, letters[draw.Intn(len(letters))])
		if s, n, e := vone.Get(b); e == api.OK && s.Family != api.Unknown {
			taken++
			mustGoBack(t, b[:n])
		}
	}
	if taken < 5000 {
		t.Errorf("%d were taken", taken)
	}
}

// P17.3: lines on end are got one by one, with the bytes behind the last one left.
func TestLinesOnEnd(t *testing.T) {
	draw := rand.New(rand.NewSource(180))
	var list []api.Stream
	var b strings.Builder
	for range 500 {
		s := drawnHeader(draw)
		list = append(list, s)
		b.WriteString(slowLine(s))
	}
	rest := b.String() + "GET"
	for i, want := range list {
		s, n, e := vone.Get(rest)
		if !same(s, want) || e != api.OK {
			t.Fatalf("line %d: %s, %v; want %s", i, told(s), e, told(want))
		}
		rest = rest[n:]
	}
	if rest != "GET" {
		t.Errorf("%q is left", rest)
	}
}

// Rule 4: no call hangs on one before it.
func TestGetTwice(t *testing.T) {
	for range 3 {
		for _, s := range headers() {
			mustComeBack(t, s, "GET")
			mustRefuse(t, "between", "PROXY", api.ErrMore)
			mustRefuse(t, "between", "PROXY \n", api.ErrForm)
			mustRefuse(t, "between", strings.Repeat("PROXY ", 20), api.ErrLength)
			mustRefuse(t, "between", "G", api.ErrSign)
		}
	}
}
