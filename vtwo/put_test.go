package vtwo_test

import (
	"math/rand"
	"strings"
	"testing"

	"palanquin/api"
	"palanquin/vtwo"
)

// P18.1: the chapter's example, a header of each Family, and others, byte by byte.
func TestPutKnownBytes(t *testing.T) {
	for _, x := range []struct {
		s    api.Stream
		seal bool
		want string
	}{
		{api.Stream{Local: true}, false, "\x0d\x0a\x0d\x0a\x00\x0d\x0aQUIT\x0a\x20\x00\x00\x00"},
		{api.Stream{}, false, sign + "\x21\x00\x00\x00"},
		{api.Stream{Local: true, Fields: []api.Field{{Type: 4, Text: "ab"}}}, false, sign + "\x20\x00\x00\x05\x04\x00\x02ab"},
		{api.Stream{Fields: []api.Field{{Type: 255}, {}}}, false, sign + "\x21\x00\x00\x06\xff\x00\x00\x00\x00\x00"},
		{api.Stream{Family: api.TCP4, Src: plain4, Dst: other4, SrcPort: 0x090a, DstPort: 0x0b0c}, false, sign + "\x21\x11\x00\x0c\x01\x02\x03\x04\x05\x06\x07\x08\x09\x0a\x0b\x0c"},
		{api.Stream{Family: api.UDP4, Src: plain4, Dst: other4, SrcPort: 1, DstPort: 65535}, false, sign + "\x21\x12\x00\x0c\x01\x02\x03\x04\x05\x06\x07\x08\x00\x01\xff\xff"},
		{api.Stream{Family: api.TCP6, Src: plain6, Dst: other6, SrcPort: 256, DstPort: 2}, false, sign + "\x21\x21\x00\x24" + plain6 + other6 + "\x01\x00\x00\x02"},
		{api.Stream{Family: api.UDP6, Src: plain6, Dst: other6, Fields: []api.Field{{Type: 1, Text: "h2"}, {Type: 2, Text: strings.Repeat("x", 256)}}}, false, sign + "\x21\x22\x01\x2c" + plain6 + other6 + "\x00\x00\x00\x00\x01\x00\x02h2\x02\x01\x00" + strings.Repeat("x", 256)},
		{api.Stream{Local: true}, true, sign + "\x20\x00\x00\x07\x03\x00\x04\xa9\xb8\x7e\x8f"},
		{api.Stream{}, true, sign + "\x21\x00\x00\x07\x03\x00\x04\x3e\xc9\x89\x4e"},
		{api.Stream{Family: api.TCP4, Src: plain4, Dst: other4, SrcPort: 9, DstPort: 10, Fields: []api.Field{{Type: 2, Text: "host"}}}, true, sign + "\x21\x11\x00\x1a\x01\x02\x03\x04\x05\x06\x07\x08\x00\x09\x00\x0a\x02\x00\x04host\x03\x00\x04\xdb\x32\x94\x6b"},
	} {
		if e := vtwo.Check(x.s, x.seal); e != api.OK {
			t.Errorf("Check(%s, %v): %v", told(x.s), x.seal, e)
		}
		if b, e := vtwo.Put(x.s, x.seal); b != x.want || e != api.OK {
			t.Errorf("Put(%s, %v): %s, %v; want %s", told(x.s), x.seal, shown(b), e, shown(x.want))
		}
		mustBe(t, "known", x.want, x.s, x.seal, len(x.want))
	}
}

// P18.1: headers of each Family, with fields of many kinds, with a seal and without.
func TestPutEachHeader(t *testing.T) {
	for _, s := range headers() {
		for _, seal := range []bool{false, true} {
			if e := mustAsk(t, s, seal); e != api.OK {
				t.Errorf("%s, %v: %v", told(s), seal, e)
			}
		}
	}
}

// P18.1: the same header of every Family: only such as have its addresses let it by.
func TestFamilies(t *testing.T) {
	for _, s := range headers() {
		for _, seal := range []bool{false, true} {
			other := s
			for family := range 5 {
				other.Family = family
				want := api.ErrRange
				if len(s.Src) == lengths[family] && (!s.Local || family == api.Unknown) {
					want = api.OK
				}
				if e := mustAsk(t, other, seal); e != want {
					t.Errorf("%s, %v: %v, want %v", told(other), seal, e, want)
				}
			}
			for _, family := range strange() {
				other.Family = family
				mustNotBeWith(t, "Family", other, seal, api.ErrRange)
			}
		}
	}
}

// P18.1: a Local header is of the Family Unknown, and has neither addresses nor ports.
func TestLocal(t *testing.T) {
	for _, s := range headers() {
		s.Local = true
		if s.Family != api.Unknown {
			mustNotBe(t, "Local of a Family", s, api.ErrRange)
		}
		for _, family := range append(strange(), api.TCP4, api.TCP6, api.UDP4, api.UDP6) {
			s.Family = family
			mustNotBe(t, "Local of a Family", s, api.ErrRange)
			mustNotBe(t, "Local of a Family, without addresses", api.Stream{Local: true, Family: family, Fields: s.Fields}, api.ErrRange)
		}
	}
	mustHaveNothing(t, api.Stream{Local: true})
	mustHaveNothing(t, api.Stream{Local: true, Fields: []api.Field{{Type: 4, Text: "a"}}})
}

// P18.1: one of the Family Unknown has neither addresses nor ports, not one of them alone, not even such as may be elsewhere.
func TestUnknownHasNothing(t *testing.T) {
	mustHaveNothing(t, api.Stream{})
	mustHaveNothing(t, api.Stream{Fields: []api.Field{{Type: 4, Text: "a"}}})
}

// mustHaveNothing says of a header that may be bytes, that with addresses or ports it may not.
func mustHaveNothing(t *testing.T, s api.Stream) {
	t.Helper()
	for _, seal := range []bool{false, true} {
		if e := mustAsk(t, s, seal); e != api.OK {
			t.Errorf("%s, %v: %v", told(s), seal, e)
		}
	}
	for _, a := range []string{"\x00", "a", plain4, greatest4, plain6, least6, strings.Repeat("a", 17)} {
		with := s
		with.Src = a
		mustNotBe(t, "Src", with, api.ErrRange)
		with.Dst = a
		mustNotBe(t, "both", with, api.ErrRange)
		with.Src = ""
		mustNotBe(t, "Dst", with, api.ErrRange)
	}
	for _, n := range append(fitting()[1:], tooFar()...) {
		with := s
		with.SrcPort = n
		mustNotBe(t, "SrcPort", with, api.ErrRange)
		with.DstPort = n
		mustNotBe(t, "both ports", with, api.ErrRange)
		with.DstPort = -n
		mustNotBe(t, "both ports, whose sum is 0", with, api.ErrRange)
		with.SrcPort, with.DstPort = 0, n
		mustNotBe(t, "DstPort", with, api.ErrRange)
		with.Src, with.Dst, with.SrcPort = plain4, other4, n
		mustNotBe(t, "all", with, api.ErrRange)
	}
}

// P18.1: Src and Dst of one length and of unlike ones, in every Family.
func TestAddressesOfEachLength(t *testing.T) {
	sizes := []int{0, 1, 2, 3, 4, 5, 8, 12, 15, 16, 17, 20, 32, 256, 260, 272, 65536, 65536 + 4, 65536 + 16}
	for _, src := range sizes {
		for _, dst := range sizes {
			for family := -1; family < 6; family++ {
				for _, seal := range []bool{false, true} {
					s := api.Stream{Family: family, Src: strings.Repeat("s", src), Dst: strings.Repeat("\x00", dst)}
					length, known := lengths[family]
					want := api.ErrRange
					if known && src == length && dst == length {
						want = api.OK
					}
					if e := mustAsk(t, s, seal); e != want {
						t.Errorf("%s: %v, want %v", told(s), e, want)
					}
				}
			}
		}
	}
}

// P18.1: each port at its least and greatest, one below, one above and far off, alone and beside any other.
func TestPortsAtTheirEdges(t *testing.T) {
	ports := append(fitting(), tooFar()...)
	for _, s := range talks()[2:] {
		for i, src := range ports {
			for k, dst := range ports {
				s.SrcPort, s.DstPort = src, dst
				want := api.ErrRange
				if i < len(fitting()) && k < len(fitting()) {
					want = api.OK
				}
				for _, seal := range []bool{false, true} {
					if e := mustAsk(t, s, seal); e != want {
						t.Errorf("%s: %v, want %v", told(s), e, want)
					}
				}
			}
		}
	}
}

// P18.1: each number of two ports stands in its place, and each byte of an address in its own.
func TestPlacesInAHeader(t *testing.T) {
	for n := range 65536 {
		s := talks()[2+n%4]
		s.SrcPort, s.DstPort = n, 65535-n
		mustAsk(t, s, false)
	}
	for n := range 256 {
		for at := range 16 {
			mustAsk(t, api.Stream{Family: api.TCP4, Src: withByte(plain4, at%4, byte(n)), Dst: withByte(other4, 3-at%4, byte(n))}, at%2 == 0)
			mustAsk(t, api.Stream{Family: api.UDP6, Src: withByte(plain6, at, byte(n)), Dst: withByte(other6, 15-at, byte(n))}, at%2 == 0)
		}
	}
}

// P18.1: drawn headers, many of which may not be bytes for one thing or several, held against the slow questions.
func TestPutDrawn(t *testing.T) {
	draw := rand.New(rand.NewSource(181))
	met := map[api.Errno]int{}
	for range 30000 {
		s := drawnHeader(draw)
		for range draw.Intn(3) {
			switch draw.Intn(9) {
			case 0:
				s.Local = !s.Local
			case 1:
				s.Family = draw.Intn(9) - 2
			case 2:
				s.Src = drawnText(draw, []int{0, 3, 4, 5, 15, 16, 17}[draw.Intn(7)])
			case 3:
				s.Dst = drawnText(draw, []int{0, 3, 4, 5, 15, 16, 17}[draw.Intn(7)])
			case 4:
				s.SrcPort = []int{-1, 0, 65535, 65536}[draw.Intn(4)]
			case 5:
				s.DstPort = []int{-1, 0, 65535, 65536}[draw.Intn(4)]
			case 6:
				s.Fields = append(s.Fields, api.Field{Type: []int{-1, 0, 2, 3, 4, 255, 256}[draw.Intn(7)]})
			case 7:
				if draw.Intn(10) == 0 {
					s.Fields = append(s.Fields, api.Field{Type: 9, Text: strings.Repeat("x", 65400+draw.Intn(140))})
				}
			case 8:
				s.Src, s.Dst = s.Dst, s.Src
			}
		}
		met[mustAsk(t, s, draw.Intn(2) == 0)]++
	}
	if met[api.OK] < 5000 || met[api.ErrRange] < 5000 || met[api.ErrLength] < 50 || len(met) != 3 {
		t.Errorf("met: %v", met)
	}
}

// Rules 3 and 4: what is handed in stays as it is, its spare room too, and no call hangs on one before it.
func TestPutTwice(t *testing.T) {
	room := []api.Field{{Type: 1, Text: "a"}, {Type: 3, Text: "b"}, {Type: 5, Text: "c"}}
	for range 3 {
		for _, s := range talks() {
			for _, seal := range []bool{false, true} {
				for n := range len(room) + 1 {
					s.Fields = room[:n]
					want := api.OK
					if n >= 2 {
						want = api.ErrRange
					}
					if e := mustAsk(t, s, seal); e != want {
						t.Errorf("%s: %v, want %v", told(s), e, want)
					}
					mustNotBe(t, "between", api.Stream{Family: -1}, api.ErrRange)
					mustRefuse(t, "between", sign+"\x22", api.ErrForm)
				}
			}
		}
	}
	if room[0] != (api.Field{Type: 1, Text: "a"}) || room[1] != (api.Field{Type: 3, Text: "b"}) || room[2] != (api.Field{Type: 5, Text: "c"}) {
		t.Errorf("%v", room)
	}
}
