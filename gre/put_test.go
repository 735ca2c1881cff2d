package gre_test

import (
	"math"
	"math/rand"
	"testing"

	"palanquin/api"
	"palanquin/gre"
)

// P12.1: the chapter's example, and others that are known byte by byte.
func TestPutKnownBytes(t *testing.T) {
	for _, x := range []struct {
		h     gre.Head
		inner string
		want  string
	}{
		{gre.Head{}, whole4, "\x00\x00\x08\x00" + whole4},
		{gre.Head{}, whole6, "\x00\x00\x86\xdd" + whole6},
		{gre.Head{}, "\x45", "\x00\x00\x08\x00\x45"},
		{gre.Head{}, "\x60", "\x00\x00\x86\xdd\x60"},
		{gre.Head{Key: true, Value: 0x01020304}, "\x45ab", "\x20\x00\x08\x00\x01\x02\x03\x04\x45ab"},
		{gre.Head{Key: true}, "\x60", "\x20\x00\x86\xdd\x00\x00\x00\x00\x60"},
		{gre.Head{Key: true, Value: math.MaxUint32}, "\x60", "\x20\x00\x86\xdd\xff\xff\xff\xff\x60"},
		{gre.Head{Sum: true}, "\x45\x00", "\x80\x00\x08\x00\x32\xff\x00\x00\x45\x00"},
		{gre.Head{Sum: true}, "\x45", "\x80\x00\x08\x00\x32\xff\x00\x00\x45"},
		{gre.Head{Sum: true}, "\x45\x00\x32\xff", "\x80\x00\x08\x00\x00\x00\x00\x00\x45\x00\x32\xff"},
		{gre.Head{Sum: true}, "\x45\x00\x33\x00", "\x80\x00\x08\x00\xff\xfe\x00\x00\x45\x00\x33\x00"},
		{gre.Head{Sum: true, Key: true, Value: 1}, "\x60", "\xa0\x00\x86\xdd\x79\x20\x00\x00\x00\x00\x00\x01\x60"},
	} {
		if b, e := gre.Put(x.h, x.inner); b != x.want || e != api.OK {
			t.Errorf("Put(%s, %s): %s, %v; want %s", told(x.h), shown(x.inner), shown(b), e, shown(x.want))
		}
		mustBe(t, x.want, x.h, x.inner)
	}
}

// P12.1: the four sizes, whatever the key.
func TestSize(t *testing.T) {
	for _, key := range keys() {
		for _, x := range []struct {
			h    gre.Head
			want int
		}{
			{gre.Head{Value: key}, 4},
			{gre.Head{Sum: true, Value: key}, 8},
			{gre.Head{Key: true, Value: key}, 8},
			{gre.Head{Sum: true, Key: true, Value: key}, 12},
		} {
			if n := gre.Size(x.h); n != x.want {
				t.Errorf("Size(%s): %d, want %d", told(x.h), n, x.want)
			}
		}
	}
}

// P12.1: packets of both versions and of many lengths behind each of the four headers, which have as many bytes as Size tells.
func TestPutEachHeader(t *testing.T) {
	for _, h := range heads() {
		for _, inner := range inners() {
			b := mustPut(t, h, inner)
			if len(b) != gre.Size(h)+len(inner) || b[gre.Size(h):] != inner {
				t.Errorf("Put(%s, %s): %s", told(h), shown(inner), shown(b))
			}
		}
		for n := 1; n <= len(whole4); n++ {
			mustPut(t, h, whole4[:n])
		}
		for n := 1; n <= len(whole6); n++ {
			mustPut(t, h, whole6[:n])
		}
	}
}

// P12.1: every first byte of a packet behind each of the four headers: its first four bits alone tell the kind, or the error.
func TestPutEveryFirstByte(t *testing.T) {
	for _, h := range heads() {
		mustNotPut(t, h, "", api.ErrShort)
		for first := range 256 {
			for _, behind := range []string{"", "\x45", "\x60", whole4[1:], whole6[1:]} {
				inner := byteText(first) + behind
				if first/16 == 4 || first/16 == 6 {
					mustPut(t, h, inner)
				} else {
					mustNotPut(t, h, inner, api.ErrVersion)
				}
			}
		}
	}
}

// P12.1: every kind of key stands in its four bytes, the highest first, with and without a sum.
func TestPutKeys(t *testing.T) {
	for _, key := range keys() {
		want := string([]byte{byte(key >> 24), byte(key >> 16), byte(key >> 8), byte(key)})
		for _, inner := range []string{whole4, whole6, "\x45"} {
			if b := mustPut(t, gre.Head{Key: true, Value: key}, inner); b[4:8] != want {
				t.Errorf("key %#x: %s", key, shown(b))
			}
			if b := mustPut(t, gre.Head{Sum: true, Key: true, Value: key}, inner); b[8:12] != want {
				t.Errorf("key %#x behind a sum: %s", key, shown(b))
			}
		}
	}
}

// P12.1: a key of no K isn't told: not in the bytes, and not in the sum.
func TestPutKeyWithoutK(t *testing.T) {
	for _, with := range []bool{false, true} {
		for _, inner := range inners() {
			bare := mustPut(t, gre.Head{Sum: with}, inner)
			for _, key := range keys() {
				if b, e := gre.Put(gre.Head{Sum: with, Value: key}, inner); b != bare || e != api.OK {
					t.Fatalf("sum %v, key %#x without K: %s, %v; want %s", with, key, shown(b), e, shown(bare))
				}
			}
		}
		for _, key := range keys() {
			mustNotPut(t, gre.Head{Sum: with, Value: key}, "", api.ErrShort)
			mustNotPut(t, gre.Head{Sum: with, Value: key}, "\x55", api.ErrVersion)
		}
	}
}

// P12.1: each number of two bytes in a packet, and so each sum but FFFF, which none has.
func TestPutEverySum(t *testing.T) {
	for _, h := range []gre.Head{{Sum: true}, {Sum: true, Key: true, Value: 0xfedcba98}} {
		sums := map[string]bool{}
		for n := range 65536 {
			sums[mustPut(t, h, "\x45\x00"+two(n))[4:6]] = true
		}
		if len(sums) != 65535 || !sums["\x00\x00"] || sums["\xff\xff"] {
			t.Errorf("%s: %d sums, with 0000: %v, with FFFF: %v", told(h), len(sums), sums["\x00\x00"], sums["\xff\xff"])
		}
	}
}

// P12.1: a packet of an odd number of bytes has the sum of one with a byte 00 behind it, and is put without that byte.
func TestPutOddPackets(t *testing.T) {
	draw := rand.New(rand.NewSource(121))
	for n := range 200 {
		inner := "\x45" + drawnText(draw, 2*n)
		for _, h := range heads() {
			odd, even := mustPut(t, h, inner), mustPut(t, h, inner+"\x00")
			if odd+"\x00" != even {
				t.Errorf("%s: %s, with 00 behind %s", told(h), shown(odd), shown(even))
			}
		}
	}
}

// P12.1: drawn headers and packets, held against the slow bytes.
func TestPutDrawn(t *testing.T) {
	draw := rand.New(rand.NewSource(122))
	for range 10000 {
		h := drawnHead(draw)
		if draw.Intn(4) == 0 {
			h.Value = draw.Uint32()
		}
		mustPut(t, h, drawnInner(draw, 300))
	}
}

// P12.1: the same call answers the same, whatever was called between.
func TestPutTwice(t *testing.T) {
	for _, h := range heads() {
		first := mustPut(t, h, whole4)
		gre.Put(gre.Head{Sum: true, Key: true, Value: 7}, whole6)
		gre.Put(gre.Head{}, "")
		gre.Get("other")
		gre.Size(gre.Head{Key: true})
		if again := mustPut(t, h, whole4); again != first {
			t.Errorf("%s, then %s", shown(first), shown(again))
		}
	}
}
