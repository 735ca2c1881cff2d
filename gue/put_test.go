package gue_test

import (
	"math/rand"
	"strings"
	"testing"

	"palanquin/api"
	"palanquin/gue"
)

// P13.1: the chapter's example, and others that are known byte by byte.
func TestPutKnownBytes(t *testing.T) {
	four := pair{"\x0a\x00\x00\x01", "\x0a\x00\x00\x02"}
	six := pair{strings.Repeat("\x00", 15) + "\x01", strings.Repeat("\x00", 15) + "\x02"}
	for _, k := range []struct {
		h     gue.Head
		x     pair
		inner string
		want  string
	}{
		{gue.Head{Port: 1}, four, whole4, "\x00\x01\x17\xc0\x00\x2b\x00\x00" + "\x00\x04\x00\x00" + whole4},
		{gue.Head{Port: 0xffff}, four, whole6, "\xff\xff\x17\xc0\x00\x48\x00\x00" + "\x00\x29\x00\x00" + whole6},
		{gue.Head{}, six, "\x45", "\x00\x00\x17\xc0\x00\x0d\x00\x00\x00\x04\x00\x00\x45"},
		{gue.Head{Port: 0x0102}, six, "\x60ab", "\x01\x02\x17\xc0\x00\x0f\x00\x00\x00\x29\x00\x00\x60ab"},
		{gue.Head{Sum: true}, four, "\x45", "\x00\x00\x17\xc0\x00\x0d\x8f\x0d\x00\x04\x00\x00\x45"},
		{gue.Head{Sum: true}, four, "\x45\x00", "\x00\x00\x17\xc0\x00\x0e\x8f\x0b\x00\x04\x00\x00\x45\x00"},
		{gue.Head{Port: 1, Sum: true}, six, "\x60", "\x00\x01\x17\xc0\x00\x0d\x87\xe7\x00\x29\x00\x00\x60"},
		{gue.Head{Sum: true}, four, "\x45\x00\x8f\x07", "\x00\x00\x17\xc0\x00\x10\xff\xff\x00\x04\x00\x00\x45\x00\x8f\x07"},
		{gue.Head{Sum: true}, four, "\x45\x00\x8f\x06", "\x00\x00\x17\xc0\x00\x10\x00\x01\x00\x04\x00\x00\x45\x00\x8f\x06"},
	} {
		if b, e := gue.Put(k.h, k.x.src, k.x.dst, k.inner); b != k.want || e != api.OK {
			t.Errorf("Put(%s, %s, %s): %s, %v; want %s", told(k.h), between(k.x), shown(k.inner), shown(b), e, shown(k.want))
		}
		mustBe(t, k.x, k.want, k.h, k.inner)
	}
}

// P13.1: packets of both versions and of many lengths, with and without a sum, between addresses of 4 and of 16 bytes; 12 bytes more than the packet.
func TestPutOrdinary(t *testing.T) {
	for _, x := range pairs() {
		for _, h := range heads() {
			for _, inner := range inners() {
				if b := mustPut(t, h, x, inner); len(b) != len(inner)+12 || b[12:] != inner {
					t.Errorf("Put(%s, %s): %s", told(h), shown(inner), shown(b))
				}
			}
			for n := 1; n <= len(whole6); n++ {
				mustPut(t, h, x, whole4[:min(n, len(whole4))])
				mustPut(t, h, x, whole6[:n])
			}
		}
	}
}

// P13.1: every port that may be.
func TestPutEveryPort(t *testing.T) {
	for _, x := range pairs()[:2] {
		for port := range 65536 {
			mustPut(t, gue.Head{Port: port}, x, whole4)
			mustPut(t, gue.Head{Port: port, Sum: true}, x, "\x60a")
		}
	}
}

// P13.1: ports below and above, of which a packet's own fault is told first.
func TestPutNoPort(t *testing.T) {
	for _, x := range pairs() {
		for _, port := range noPorts() {
			for _, with := range []bool{false, true} {
				h := gue.Head{Port: port, Sum: with}
				mustNotPut(t, h, x, whole4, api.ErrRange)
				mustNotPut(t, h, x, whole6, api.ErrRange)
				mustNotPut(t, h, x, "\x45"+strings.Repeat("x", mostInner), api.ErrRange)
				mustNotPut(t, h, x, "", api.ErrShort)
				mustNotPut(t, h, x, "\x55", api.ErrVersion)
				mustNotPut(t, h, x, strings.Repeat("x", mostInner+1), api.ErrVersion)
			}
		}
	}
}

// P13.1: every first byte of a packet: its first four bits alone tell the protocol, or the error.
func TestPutEveryFirstByte(t *testing.T) {
	for _, x := range pairs() {
		for _, h := range heads() {
			mustNotPut(t, h, x, "", api.ErrShort)
			for first := range 256 {
				for _, behind := range []string{"", "\x45", "\x60", whole4[1:], whole6[1:]} {
					inner := byteText(first) + behind
					if first/16 == 4 || first/16 == 6 {
						mustPut(t, h, x, inner)
					} else {
						mustNotPut(t, h, x, inner, api.ErrVersion)
					}
				}
			}
		}
	}
}

// P13.1: the longest packet, and longer ones, of which one that is of neither version is told as that.
func TestPutLongest(t *testing.T) {
	for _, x := range pairs() {
		for _, h := range heads() {
			for _, first := range []string{"\x45", "\x60"} {
				for n := mostInner - 3; n <= mostInner; n++ {
					if b := mustPut(t, h, x, first+strings.Repeat("\x9f", n-1)); len(b) != n+12 {
						t.Errorf("%d bytes, put as %d", n, len(b))
					}
				}
				for _, n := range []int{mostInner + 1, mostInner + 2, 65527, 65528, 65535, 65536, 65537, 131059, 131072, 1 << 18} {
					mustNotPut(t, h, x, first+strings.Repeat("\x9f", n-1), api.ErrLength)
				}
			}
			mustNotPut(t, h, x, strings.Repeat("\x9f", mostInner+1), api.ErrVersion)
		}
	}
}

// P13.1: each number of two bytes in a packet, and so each sum but 0, which means that there is none.
func TestPutEverySum(t *testing.T) {
	for _, x := range pairs() {
		sums := map[string]bool{}
		for n := range 65536 {
			sums[mustPut(t, heads()[1], x, "\x45\x00"+two(n))[6:8]] = true
		}
		if len(sums) != 65535 || sums["\x00\x00"] || !sums["\xff\xff"] {
			t.Errorf("%s: %d sums, with 0000: %v, with FFFF: %v", between(x), len(sums), sums["\x00\x00"], sums["\xff\xff"])
		}
	}
}

// P13.1: without a sum the addresses play no part.
func TestPutNoSumWhateverTheAddresses(t *testing.T) {
	for _, inner := range inners() {
		want := mustPut(t, heads()[0], pairs()[0], inner)
		for _, x := range append(pairs(), strangePairs()...) {
			if b := mustPut(t, heads()[0], x, inner); b != want || b[6:8] != "\x00\x00" {
				t.Fatalf("%s: %s, want %s", between(x), shown(b), shown(want))
			}
		}
	}
}

// P13.1: texts that are no addresses, and addresses of unlike lengths, have a sum by the same rule.
func TestPutStrangeAddresses(t *testing.T) {
	for _, x := range strangePairs() {
		for _, inner := range []string{whole4, whole6, whole4 + "d", "\x45"} {
			mustPut(t, heads()[1], x, inner)
		}
		mustNotPut(t, heads()[1], x, "", api.ErrShort)
		mustNotPut(t, gue.Head{Port: -1, Sum: true}, x, whole4, api.ErrRange)
	}
}

// strangePairs are texts that aren't both addresses of one length.
func strangePairs() []pair {
	four, sixteen := pairs()[0].src, pairs()[1].src
	return []pair{
		{"", ""}, {four, sixteen}, {sixteen, four}, {"", four}, {sixteen, ""}, {"a", "b"}, {"abc", "d"}, {"abc", four},
		{four + "a", four}, {sixteen, "a"}, {sixteen + "a", sixteen}, {strings.Repeat("\xff", 70000), strings.Repeat("z", 69999)},
	}
}

// P13.1: drawn ports, addresses and packets, held against the slow bytes.
func TestPutDrawn(t *testing.T) {
	draw := rand.New(rand.NewSource(131))
	for range 10000 {
		mustPut(t, drawnHead(draw), drawnPair(draw), drawnInner(draw, 300))
	}
}

// P13.1: the same call answers the same, whatever was called between.
func TestPutTwice(t *testing.T) {
	for _, x := range pairs() {
		for _, h := range heads() {
			first := mustPut(t, h, x, whole4)
			gue.Put(gue.Head{Port: 7, Sum: true}, x.dst, x.src, whole6)
			gue.Put(gue.Head{Port: -1}, "", "", "")
			gue.Get(x.src, x.dst, "other")
			if again := mustPut(t, h, x, whole4); again != first {
				t.Errorf("%s, then %s", shown(first), shown(again))
			}
		}
	}
}
