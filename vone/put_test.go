package vone_test

import (
	"math/rand"
	"strings"
	"testing"

	"palanquin/api"
	"palanquin/vone"
)

// P17.1: the chapter's example, the shortest and the longest line of each Family, and others, byte by byte.
func TestPutKnownLines(t *testing.T) {
	for _, x := range []struct {
		s    api.Stream
		want string
		size int
	}{
		{api.Stream{Family: api.TCP4, Src: plain4, Dst: other4, SrcPort: 9, DstPort: 10}, example, 33},
		{api.Stream{}, "PROXY UNKNOWN\r\n", 15},
		{api.Stream{Family: api.TCP4, Src: least4, Dst: least4}, "PROXY TCP4 0.0.0.0 0.0.0.0 0 0\r\n", 32},
		{api.Stream{Family: api.TCP4, Src: greatest4, Dst: greatest4, SrcPort: 65535, DstPort: 65535}, "PROXY TCP4 255.255.255.255 255.255.255.255 65535 65535\r\n", 56},
		{api.Stream{Family: api.TCP6, Src: least6, Dst: least6}, "PROXY TCP6 :: :: 0 0\r\n", 22},
		{api.Stream{Family: api.TCP6, Src: greatest6, Dst: greatest6, SrcPort: 65535, DstPort: 65535}, "PROXY TCP6 ffff:ffff:ffff:ffff:ffff:ffff:ffff:ffff ffff:ffff:ffff:ffff:ffff:ffff:ffff:ffff 65535 65535\r\n", 104},
		{api.Stream{Family: api.TCP6, Src: plain6, Dst: other6, SrcPort: 40000, DstPort: 443}, "PROXY TCP6 2001:db8::1 1::2:0:0:3 40000 443\r\n", 45},
		{api.Stream{Family: api.TCP6, Src: least6[:10] + "\xff\xff" + plain4, Dst: least6[:15] + "\x0a", SrcPort: 65535}, "PROXY TCP6 ::ffff:102:304 ::a 65535 0\r\n", 39},
		{api.Stream{Family: api.TCP4, Src: greatest4, Dst: least4, DstPort: 65535}, "PROXY TCP4 255.255.255.255 0.0.0.0 0 65535\r\n", 44},
	} {
		if e := vone.Check(x.s); e != api.OK {
			t.Errorf("Check(%s): %v", told(x.s), e)
		}
		if b, e := vone.Put(x.s); b != x.want || len(b) != x.size || e != api.OK {
			t.Errorf("Put(%s): %q of %d bytes, %v; want %q", told(x.s), b, len(b), e, x.want)
		}
	}
}

// P17.1: the same header of every Family: only its own lets it by.
func TestFamilies(t *testing.T) {
	for i, s := range headers() {
		for family := range 3 {
			other := s
			other.Family = family
			if ok := mustAsk(t, other); ok != (family == s.Family) {
				t.Errorf("header %d with Family %d: %v", i, family, ok)
			}
		}
		for _, family := range strange() {
			other := s
			other.Family = family
			mustNotBe(t, "Family", other)
		}
	}
}

// P17.1: Src and Dst of one length and of unlike ones, in every Family.
func TestAddressesOfEachLength(t *testing.T) {
	lengths := []int{0, 1, 2, 3, 4, 5, 8, 12, 15, 16, 17, 20, 32, 256, 260, 272, 65536 + 4, 65536 + 16}
	families := append(strange(), api.Unknown, api.TCP4, api.TCP6)
	for _, src := range lengths {
		for _, dst := range lengths {
			for _, family := range families {
				s := api.Stream{Family: family, Src: strings.Repeat("s", src), Dst: strings.Repeat("\x00", dst)}
				want := family == api.Unknown && src+dst == 0 || family == api.TCP4 && src == 4 && dst == 4 || family == api.TCP6 && src == 16 && dst == 16
				if ok := mustAsk(t, s); ok != want {
					t.Errorf("%s: %v", told(s), ok)
				}
				s.SrcPort, s.DstPort = 1, 65535
				if ok := mustAsk(t, s); ok != (want && family != api.Unknown) {
					t.Errorf("%s: %v", told(s), ok)
				}
			}
		}
	}
}

// P17.1: Unknown has neither addresses nor ports, not one of them alone, not even such as may be elsewhere.
func TestUnknownHasNothing(t *testing.T) {
	if !mustAsk(t, api.Stream{Family: api.Unknown}) {
		t.Error("without anything")
	}
	for _, a := range []string{"\x00", "a", plain4, greatest4, least4, plain6, least6, strings.Repeat("a", 17)} {
		mustNotBe(t, "Src", api.Stream{Src: a})
		mustNotBe(t, "Dst", api.Stream{Dst: a})
		mustNotBe(t, "both", api.Stream{Src: a, Dst: a})
	}
	for _, n := range append(fitting()[1:], tooFar()...) {
		mustNotBe(t, "SrcPort", api.Stream{SrcPort: n})
		mustNotBe(t, "DstPort", api.Stream{DstPort: n})
		mustNotBe(t, "both", api.Stream{SrcPort: n, DstPort: n})
		mustNotBe(t, "both, whose sum is 0", api.Stream{SrcPort: n, DstPort: -n})
		mustNotBe(t, "all", api.Stream{Src: plain4, Dst: other4, SrcPort: n, DstPort: n})
	}
}

// P17.1: each port at its least and greatest, one below, one above and far off, alone and beside any other.
func TestPortsAtTheirEdges(t *testing.T) {
	ports := append(fitting(), tooFar()...)
	for _, s := range headers()[1:] {
		for _, src := range ports {
			for _, dst := range ports {
				s.SrcPort, s.DstPort = src, dst
				want := 0 <= src && src <= 65535 && 0 <= dst && dst <= 65535
				if ok := mustAsk(t, s); ok != want {
					t.Errorf("%s: %v", told(s), ok)
				}
			}
		}
		for _, n := range tooFar() {
			s.SrcPort, s.DstPort = n, 9
			mustNotBe(t, "SrcPort", s)
			s.SrcPort, s.DstPort = 9, n
			mustNotBe(t, "DstPort", s)
		}
	}
}

// P17.1: a Local header is no line, of no Family.
func TestLocal(t *testing.T) {
	for _, s := range headers() {
		s.Local = true
		mustNotBe(t, "Local", s)
		for _, family := range strange() {
			s.Family = family
			mustNotBe(t, "Local", s)
		}
	}
}

// P17.1: a header with Fields is no line, whatever they say; an empty list of them is none.
func TestFields(t *testing.T) {
	for _, s := range headers() {
		s.Fields = []api.Field{}
		if !mustAsk(t, s) {
			t.Errorf("%s: an empty list", told(s))
		}
		s.Fields = make([]api.Field, 0, 9)
		if !mustAsk(t, s) {
			t.Errorf("%s: an empty list with room", told(s))
		}
		for _, fields := range [][]api.Field{{{}}, {{Type: 3}}, {{Type: 4, Text: "abc"}}, {{}, {}}, make([]api.Field, 256), {{Type: -1}}} {
			s.Fields = fields
			mustNotBe(t, "Fields", s)
		}
		s.Local = true
		mustNotBe(t, "Local, with Fields", s)
	}
}

// P17.1: each number of two ports stands in its place, and each address in its own.
func TestPlacesInALine(t *testing.T) {
	for n := range 65536 {
		s := api.Stream{Family: api.TCP4, Src: plain4, Dst: other4, SrcPort: n, DstPort: 65535 - n}
		mustAsk(t, s)
		s = api.Stream{Family: api.TCP6, Src: plain6, Dst: other6, SrcPort: 65535 - n, DstPort: n}
		mustAsk(t, s)
	}
	for n := range 256 {
		for at := range 16 {
			if at < 4 {
				mustAsk(t, api.Stream{Family: api.TCP4, Src: withByte(plain4, at, byte(n)), Dst: withByte(other4, 3-at, byte(n))})
			}
			mustAsk(t, api.Stream{Family: api.TCP6, Src: withByte(plain6, at, byte(n)), Dst: withByte(other6, 15-at, byte(n))})
		}
	}
}

// P17.1: a line has 107 bytes at most, and just one byte 10, at its end.
func TestPutNeverTooLong(t *testing.T) {
	draw := rand.New(rand.NewSource(171))
	for range 20000 {
		s := drawnHeader(draw)
		b, e := vone.Put(s)
		if e != api.OK || len(b) > api.MaxLine || strings.IndexByte(b, 10) != len(b)-1 || strings.IndexByte(b, 13) != len(b)-2 {
			t.Fatalf("Put(%s): %q, %v", told(s), b, e)
		}
	}
}

// P17.1: drawn headers, many of which may not be a line for one thing or several, held against the slow questions.
func TestPutDrawn(t *testing.T) {
	draw := rand.New(rand.NewSource(172))
	may := 0
	for range 60000 {
		s := drawnHeader(draw)
		for range draw.Intn(3) {
			switch draw.Intn(8) {
			case 0:
				s.Local = true
			case 1:
				s.Family = draw.Intn(9) - 2
			case 2:
				s.Src = drawnText(draw, []int{0, 3, 4, 5, 15, 16, 17}[draw.Intn(7)])
			case 3:
				s.Dst = drawnText(draw, []int{0, 3, 4, 5, 15, 16, 17}[draw.Intn(7)])
			case 4:
				s.SrcPort = []int{-1, 0, 65535, 65536}[draw.Intn(4)]
			case 5:
				s.DstPort = []int{-1, 0, 65535, 65536}[draw.Intn(4)]
			case 6:
				s.Fields = make([]api.Field, draw.Intn(2))
			case 7:
				s.Src, s.Dst = s.Dst, s.Src
			}
		}
		if mustAsk(t, s) {
			may++
		}
	}
	if may < 10000 || may > 50000 {
		t.Errorf("%d may be a line", may)
	}
}

// Rules 3 and 4: what is handed in stays as it is, and no call hangs on one before it.
func TestPutTwice(t *testing.T) {
	room := []api.Field{{Type: 1, Text: "a"}, {Type: 2, Text: "b"}}
	for range 3 {
		for _, s := range headers() {
			s.Fields = room[:0]
			mustAsk(t, s)
			s.Fields = room[:1]
			mustNotBe(t, "between", s)
			mustNotBe(t, "between", api.Stream{Family: -1})
			mustRefuse(t, "between", "PROXY \n", api.ErrForm)
		}
	}
	if room[0] != (api.Field{Type: 1, Text: "a"}) || room[1] != (api.Field{Type: 2, Text: "b"}) {
		t.Errorf("%v", room)
	}
}
