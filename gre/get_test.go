package gre_test

import (
	"math/bits"
	"math/rand"
	"strings"
	"testing"

	"palanquin/api"
	"palanquin/gre"
)

// P12.2: packets of both versions and of many lengths behind each of the four headers.
func TestGetEachHeader(t *testing.T) {
	for _, h := range heads() {
		for _, inner := range inners() {
			mustBe(t, slowPut(h, inner), h, inner)
		}
		for n := 1; n <= len(whole4); n++ {
			mustBe(t, slowPut(h, whole4[:n]), h, whole4[:n])
		}
		for n := 1; n <= len(whole6); n++ {
			mustBe(t, slowPut(h, whole6[:n]), h, whole6[:n])
		}
	}
}

// P12.2: every key is told of K alone; without it the Value is 0, whatever stands there.
func TestGetKeys(t *testing.T) {
	for _, key := range keys() {
		for _, inner := range []string{whole4, whole6, "\x45", "\x60ab"} {
			for _, with := range []bool{false, true} {
				h := gre.Head{Sum: with, Key: true, Value: key}
				mustBe(t, slowPut(h, inner), h, inner)
			}
		}
		behind := "\x45" + two(int(key>>16)) + two(int(key%65536))
		mustBe(t, slowPut(gre.Head{}, behind), gre.Head{}, behind)
		mustBe(t, slowPut(gre.Head{Sum: true}, behind), gre.Head{Sum: true}, behind)
	}
}

// P12.2: fewer than 4 bytes are too few, whatever they say.
func TestGetFewerThanFour(t *testing.T) {
	mustRefuse(t, "nothing", "", api.ErrShort)
	for first := range 65536 {
		for n := 1; n < 4; n++ {
			mustRefuse(t, "few", (two(first) + "\x08\x00")[:n], api.ErrShort)
		}
	}
}

// P12.2: headers cut at every byte, and just whole ones, behind which no packet is.
func TestGetCutAtEveryByte(t *testing.T) {
	for _, h := range heads() {
		for _, inner := range []string{whole4, whole6} {
			whole := slowPut(h, inner)
			for n := range slowSize(h) {
				mustRefuse(t, "cut", whole[:n], api.ErrShort)
				if n >= 6 && h.Sum {
					mustRefuse(t, "cut and sealed", sealed(whole[:n]), api.ErrShort)
				}
			}
			want := api.ErrShort // of the packet
			if h.Sum {
				want = api.ErrSum
			}
			mustRefuse(t, "header alone", whole[:slowSize(h)], want)
		}
		mustRefuse(t, "header alone, its sum right", made{h: h, kind: 0x0800}.text(), api.ErrShort)
	}
}

// P12.2: a header that isn't all there is told as short ahead of all that it would say.
func TestGetShortHeaderWhateverItSays(t *testing.T) {
	for _, h := range heads()[1:] {
		for n := 4; n < slowSize(h); n++ {
			for _, with := range []string{"\x00", "\x01", "\x45", "\xff"} {
				for _, kind := range []string{"\x08\x00", "\x86\xdd", "\x00\x00", "\xff\xff"} {
					b := slowPut(h, whole4)[:2] + kind + strings.Repeat(with, n-4)
					mustRefuse(t, "short", b, api.ErrShort)
				}
			}
		}
	}
}

// P12.2: each bit of the first two bytes alone, and turned in each of the four headers.
func TestGetEachBit(t *testing.T) {
	for bit := range 16 {
		want := api.ErrForm
		switch bit {
		case 0, 1, 2:
			want = api.ErrVersion
		case 13, 15:
			want = api.OK
		}
		// Of C the four bytes behind the kind are the sum and 00 00, of K the key.
		alone := two(1<<bit) + "\x08\x00" + "\x00\x00\x00\x00" + "\x45\x00\x00\x00"
		if bit == 15 {
			alone = sealed(alone)
		}
		if e := mustGet(t, alone); e != want {
			t.Errorf("bit %d alone: %v, want %v", bit, e, want)
		}
		for _, h := range heads() {
			for _, inner := range []string{whole4, whole6} {
				if want != api.OK {
					mustRefuse(t, "bit", made{h: h, turned: 1 << bit, kind: kindOf(inner), inner: inner}.text(), want)
				}
			}
		}
	}
}

// P12.2: every number as the first two bytes, with a right sum where one is told.
func TestGetEveryFirstTwoBytes(t *testing.T) {
	met := map[api.Errno]int{}
	for first := range 65536 {
		b := two(first) + "\x86\xdd" + "\x00\x00\x00\x00" + "\x60\x00\x00\x00" + "\x60\x00"
		if first >= 32768 {
			b = sealed(b)
		}
		want := api.OK
		switch {
		case first%8 != 0:
			want = api.ErrVersion
		case first != 0 && first != 0x8000 && first != 0x2000 && first != 0xa000:
			want = api.ErrForm
		case first == 0:
			want = api.ErrVersion // the packet's, which begins with 00
		}
		if e := mustGet(t, b); e != want {
			t.Errorf("first two bytes %04x: %v, want %v", first, e, want)
		}
		met[want]++
	}
	if met[api.OK] != 3 || met[api.ErrForm] != 8192-4 || met[api.ErrVersion] != 65536-8192+1 {
		t.Errorf("met: %v", met)
	}
}

// P12.2: each version of the lowest three bits, beside every other bit.
func TestGetVersions(t *testing.T) {
	for version := 1; version < 8; version++ {
		for _, h := range heads() {
			for _, beside := range []int{0, 8, 0x80, 0x100, 0x1000, 0x4000, 0x5ff8} {
				b := made{h: h, turned: version | beside, kind: 0x0800, inner: whole4}.text()
				mustRefuse(t, "version", b, api.ErrVersion)
				mustRefuse(t, "version, cut", b[:4], api.ErrVersion)
			}
		}
	}
}

// P12.2: the two bytes behind the sum, each of their values, beside a right sum and a wrong one.
func TestGetBehindTheSum(t *testing.T) {
	for _, h := range heads() {
		if !h.Sum {
			continue
		}
		for n := range 65536 {
			for _, wrong := range []int{0, 1} {
				b := made{h: h, kind: 0x0800, behind: n, wrong: wrong, inner: whole4}.text()
				switch {
				case n != 0:
					mustRefuse(t, "behind the sum", b, api.ErrForm)
				case wrong != 0:
					mustRefuse(t, "sum", b, api.ErrSum)
				default:
					mustBe(t, b, h, whole4)
				}
			}
		}
	}
}

// P12.2: every kind, with a packet of either version, of neither, and with none.
func TestGetEveryKind(t *testing.T) {
	for _, h := range heads() {
		for _, inner := range []string{"\x45\x00a", "\x60\x00a", "\x50\x00a", ""} {
			met := map[api.Errno]int{}
			for kind := range 65536 {
				met[mustGet(t, made{h: h, kind: kind, inner: inner}.text())]++
			}
			if met[api.ErrProto] != 65534 {
				t.Errorf("%s, %s: met %v", told(h), shown(inner), met)
			}
		}
	}
}

// P12.2: kinds that are nearly right, whatever the packet.
func TestGetKindsBeside(t *testing.T) {
	for _, right := range []int{0x0800, 0x86dd} {
		for _, h := range heads() {
			for _, inner := range []string{whole4, whole6, "\x50", ""} {
				for bit := range 16 {
					b := made{h: h, kind: right ^ 1<<bit, inner: inner}.text()
					mustRefuse(t, "a bit", b, api.ErrProto)
				}
				for _, kind := range []int{right - 1, right + 1, int(bits.ReverseBytes16(uint16(right))), 0, 4, 6, 41, 65535, 0x0806, 0x6558, 0x880b} {
					mustRefuse(t, "kind", made{h: h, kind: kind, inner: inner}.text(), api.ErrProto)
				}
			}
		}
	}
}

// P12.2: a packet that is empty, one of each version, and one of the other version than its kind.
func TestGetPackets(t *testing.T) {
	for _, h := range heads() {
		for _, kind := range []int{0x0800, 0x86dd} {
			mustRefuse(t, "no packet", made{h: h, kind: kind}.text(), api.ErrShort)
			for first := range 256 {
				for _, behind := range []string{"", "\x45", "\x60", whole4[1:], whole6[1:]} {
					inner := byteText(first) + behind
					b := made{h: h, kind: kind, inner: inner}.text()
					if kind == 0x0800 && first/16 == 4 || kind == 0x86dd && first/16 == 6 {
						mustBe(t, b, h, inner)
					} else {
						mustRefuse(t, "version", b, api.ErrVersion)
					}
				}
			}
		}
	}
}

// P12.2: what isn't C or K has no part: headers of fewer parts take the bytes for the packet.
func TestGetTakesNoMoreThanItSays(t *testing.T) {
	behind := "\x45\x00\x00\x00" + "\x45\x01\x02\x03" + "\x45\xff"
	mustBe(t, "\x00\x00\x08\x00"+behind, gre.Head{}, behind)
	mustBe(t, "\x20\x00\x08\x00"+behind, gre.Head{Key: true, Value: 0x45000000}, behind[4:])
	both := sealed("\xa0\x00\x08\x00\x00\x00\x00\x00" + behind)
	mustBe(t, both, gre.Head{Sum: true, Key: true, Value: 0x45000000}, behind[4:])
	one := sealed("\x80\x00\x08\x00\x00\x00\x00\x00" + behind)
	mustBe(t, one, gre.Head{Sum: true}, behind)
}

// P12.2: drawn bytes, and texts that are put, with some bytes changed, sealed again or not.
func TestGetDrawn(t *testing.T) {
	draw := rand.New(rand.NewSource(123))
	met := map[api.Errno]int{}
	for range 60000 {
		met[mustGet(t, drawnBytes(draw))]++
	}
	for _, e := range []api.Errno{api.OK, api.ErrShort, api.ErrVersion, api.ErrForm, api.ErrSum, api.ErrProto} {
		if met[e] < 500 {
			t.Errorf("error %v was met %d times", e, met[e])
		}
	}
}

func drawnBytes(draw *rand.Rand) string {
	b := slowPut(drawnHead(draw), drawnInner(draw, 60))
	for range draw.Intn(3) {
		b = withByte(b, draw.Intn(min(len(b), 16)), byte(draw.Intn(256)))
	}
	if draw.Intn(3) == 0 {
		b = b[:draw.Intn(len(b)+1)]
	}
	if len(b) >= 6 && b[0] >= 128 && draw.Intn(2) == 0 {
		b = sealed(b)
	}
	if draw.Intn(12) == 0 {
		b = drawnText(draw, draw.Intn(20))
	}
	return b
}

// P12.2: the same call answers the same, whatever was called between.
func TestGetTwice(t *testing.T) {
	for _, h := range heads() {
		b := slowPut(h, whole6)
		for range 3 {
			mustBe(t, b, h, whole6)
			mustRefuse(t, "between", b[:3], api.ErrShort)
			mustRefuse(t, "between", withByte(b, 1, 1), api.ErrVersion)
			gre.Put(gre.Head{Sum: true}, whole4)
		}
	}
}
