package gre_test

import (
	"math/rand"
	"testing"

	"palanquin/api"
	"palanquin/gre"
)

// headsWithSum are those of the four that have one.
func headsWithSum() []gre.Head { return []gre.Head{heads()[1], heads()[3]} }

// innerWithSum is a packet that has a sum behind a header; FFFF is none's.
func innerWithSum(h gre.Head, want int) string {
	for n := range 65536 {
		inner := "\x45\x00" + two(n)
		if slowPut(h, inner)[4:6] == two(want) {
			return inner
		}
	}
	return ""
}

// P12.2: each sum that may stand there: the right one alone is taken.
func TestGetEverySum(t *testing.T) {
	for _, h := range headsWithSum() {
		for _, inner := range []string{whole4, whole6, whole4 + "d", "\x45", "\x60\x00"} {
			b := slowPut(h, inner)
			for n := range 65536 {
				if turned := withSum(b, n); turned == b {
					mustBe(t, turned, h, inner)
				} else {
					mustRefuse(t, "sum", turned, api.ErrSum)
				}
			}
		}
	}
}

// P12.2: a sum that is off by one bit, each of them.
func TestGetSumOffByABit(t *testing.T) {
	for _, h := range headsWithSum() {
		for _, inner := range inners() {
			for bit := range 16 {
				b := made{h: h, kind: kindOf(inner), wrong: 1 << bit, inner: inner}.text()
				mustRefuse(t, "a bit", b, api.ErrSum)
			}
		}
	}
}

// P12.2: a sum that is 0, where that is right, and where it isn't: of C no sum may be left out.
func TestGetSumOfZero(t *testing.T) {
	for _, h := range headsWithSum() {
		inner := innerWithSum(h, 0)
		b := slowPut(h, inner)
		if b[4:6] != "\x00\x00" {
			t.Fatalf("%s: the sum isn't 0", shown(b))
		}
		mustBe(t, b, h, inner)
		for _, inner := range []string{whole4, whole6, inner + "\x01", inner + "\x00\x01", "\x45"} {
			mustRefuse(t, "sum 0", withSum(slowPut(h, inner), 0), api.ErrSum)
		}
	}
}

// P12.2: a sum that is FFFF is taken where 0 is right, since the sum of all is 0 then, and nowhere else.
func TestGetSumOfAllOnes(t *testing.T) {
	for _, h := range headsWithSum() {
		zero := innerWithSum(h, 0)
		mustBe(t, withSum(slowPut(h, zero), 0xffff), h, zero)
		mustBe(t, withSum(slowPut(h, zero+"\x00"), 0xffff), h, zero+"\x00")
		for _, inner := range []string{whole4, whole6, zero + "\x01", innerWithSum(h, 1), innerWithSum(h, 0xfffe)} {
			mustRefuse(t, "sum FFFF", withSum(slowPut(h, inner), 0xffff), api.ErrSum)
		}
	}
}

// P12.2: the sum is of the header, the key, and the packet: each bit of them that is turned alone is told.
func TestGetEveryBitTurned(t *testing.T) {
	for _, h := range headsWithSum() {
		for _, inner := range []string{whole4, whole6, whole4[:20], "\x45"} {
			b := slowPut(h, inner)
			for at := range b {
				for bit := range 8 {
					e := mustGet(t, withByte(b, at, b[at]^1<<bit))
					switch {
					case at < 2: // a bit that tells what follows
					case at == 6 || at == 7:
						if e != api.ErrForm {
							t.Errorf("byte %d, bit %d: %v", at, bit, e)
						}
					case e != api.ErrSum:
						t.Errorf("byte %d, bit %d: %v", at, bit, e)
					}
				}
			}
		}
	}
}

// P12.2: the key and the packet play their part by each byte's place, of packets of an odd number of bytes, too.
func TestGetOddPackets(t *testing.T) {
	draw := rand.New(rand.NewSource(124))
	for n := range 200 {
		inner := "\x60" + drawnText(draw, 2*n)
		for _, h := range headsWithSum() {
			b := slowPut(h, inner)
			mustBe(t, b, h, inner)
			mustBe(t, b+"\x00", h, inner+"\x00")
			mustRefuse(t, "a byte more", b+"\x01", api.ErrSum)
			mustRefuse(t, "two bytes more", b+"\x00\x01", api.ErrSum)
		}
	}
}

// P12.2: without C no sum is asked: whatever stands behind the kind is the key's, or the packet's.
func TestGetNoSumIsAsked(t *testing.T) {
	for n := range 65536 {
		inner := "\x45\x00" + two(n)
		mustBe(t, "\x00\x00\x08\x00"+inner, gre.Head{}, inner)
		key := gre.Head{Key: true, Value: uint32(n) * 65537}
		mustBe(t, "\x20\x00\x08\x00"+two(n)+two(n)+inner, key, inner)
	}
}
