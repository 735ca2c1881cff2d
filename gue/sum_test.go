package gue_test

import (
	"math/rand"
	"strings"
	"testing"

	"palanquin/api"
	"palanquin/gue"
)

// innerWithSum is a packet that comes out with a sum between addresses; 0 is none's.
func innerWithSum(x pair, want int) string {
	for n := range 65536 {
		inner := "\x45\x00" + two(n)
		if slowPut(heads()[1], x, inner)[6:8] == two(want) {
			return inner
		}
	}
	return ""
}

// P13.2: each sum that may stand there: the right one alone is taken, and 0, which means that there is none.
func TestGetEverySum(t *testing.T) {
	h := heads()[1]
	for _, x := range pairs()[:2] {
		for _, inner := range []string{whole4, whole6, whole4 + "d", "\x45", innerWithSum(x, 0xffff), innerWithSum(x, 1)} {
			b := slowPut(h, x, inner)
			for n := range 65536 {
				switch turned := withSum(b, n); {
				case turned == b:
					mustBe(t, x, turned, h, inner)
				case n == 0:
					mustBe(t, x, turned, gue.Head{Port: h.Port}, inner)
				default:
					mustRefuse(t, "sum", x, turned, api.ErrSum)
				}
			}
		}
	}
}

// P13.2: a sum that is off by one bit, each of them.
func TestGetSumOffByABit(t *testing.T) {
	h := heads()[1]
	for _, x := range pairs() {
		for _, inner := range inners() {
			b := slowPut(h, x, inner)
			for bit := range 16 {
				if n := number(b, 6) ^ 1<<bit; n != 0 {
					mustRefuse(t, "a bit", x, withSum(b, n), api.ErrSum)
				}
			}
		}
	}
}

// P13.2: a sum that is 0 isn't asked, whatever the packet, and is told as none.
func TestGetSumOfZero(t *testing.T) {
	h := heads()[1]
	for _, x := range pairs() {
		for _, inner := range append(inners(), innerWithSum(x, 0xffff), innerWithSum(x, 1)) {
			mustBe(t, x, withSum(slowPut(h, x, inner), 0), gue.Head{Port: h.Port}, inner)
		}
	}
}

// P13.2: a sum that would come out 0 is FFFF, which is taken there, and nowhere else.
func TestGetSumThatWouldComeOutZero(t *testing.T) {
	h := heads()[1]
	for _, x := range pairs() {
		inner := innerWithSum(x, 0xffff)
		b := mustPut(t, h, x, inner)
		if b[6:8] != "\xff\xff" {
			t.Fatalf("%s: the sum isn't FFFF", shown(b))
		}
		mustBe(t, x, b, h, inner)
		mustBe(t, x, withSum(b, 0), gue.Head{Port: h.Port}, inner)
		for _, inner := range []string{whole4, whole6, inner + "\x01", innerWithSum(x, 1), innerWithSum(x, 0xfffe)} {
			mustRefuse(t, "sum FFFF", x, withSum(slowPut(h, x, inner), 0xffff), api.ErrSum)
		}
	}
}

// P13.2: the sum is of all that there is: each bit that is turned alone is told, by the question that is asked of it first.
func TestGetEveryBitTurned(t *testing.T) {
	h := heads()[1]
	for _, x := range pairs() {
		for _, inner := range []string{whole4, whole6, whole4[:20], "\x45"} {
			b := slowPut(h, x, inner)
			for at := range b {
				want := api.ErrSum
				switch at {
				case 2, 3:
					want = api.ErrProto
				case 4, 5:
					want = api.ErrLength
				}
				for bit := range 8 {
					mustRefuse(t, "bit", x, withByte(b, at, b[at]^1<<bit), want)
				}
			}
		}
	}
}

// P13.2: each byte plays its part by its place, of packets of an odd number of bytes, too.
func TestGetOddPackets(t *testing.T) {
	draw := rand.New(rand.NewSource(134))
	h := heads()[1]
	for n := range 200 {
		x := pairs()[n%2]
		inner := "\x60" + drawnText(draw, 2*n)
		b := slowPut(h, x, inner)
		mustBe(t, x, b, h, inner)
		more := slowPut(h, x, inner+"\x01")
		mustBe(t, x, more, h, inner+"\x01")
		mustRefuse(t, "the other's sum", x, withSum(more, number(b, 6)), api.ErrSum)
		// A byte 00 more is told by the two lengths, each of which grows by one.
		zero := slowPut(h, x, inner+"\x00")
		mustBe(t, x, zero, h, inner+"\x00")
		mustRefuse(t, "the other's sum", x, withSum(zero, number(b, 6)), api.ErrSum)
	}
}

// P13.2: between other addresses a sum is wrong, each of their bits playing its part; none isn't asked.
func TestGetOtherAddresses(t *testing.T) {
	for _, x := range pairs() {
		for _, inner := range []string{whole4, whole6, "\x45ab"} {
			without, with := slowPut(heads()[0], x, inner), slowPut(heads()[1], x, inner)
			for bit := range 8 * len(x.src) {
				for _, other := range []pair{{withBit(x.src, bit), x.dst}, {x.src, withBit(x.dst, bit)}} {
					mustRefuse(t, "other addresses", other, with, api.ErrSum)
					mustBe(t, other, without, heads()[0], inner)
				}
			}
		}
	}
	four, six := pairs()[0], pairs()[1]
	mustRefuse(t, "between 16 bytes", six, slowPut(heads()[1], four, whole4), api.ErrSum)
	mustRefuse(t, "between 4 bytes", four, slowPut(heads()[1], six, whole4), api.ErrSum)
}

// P13.2: between the same addresses exchanged a sum is as right as before, since what is added may be added in any order.
func TestGetExchangedAddresses(t *testing.T) {
	for _, x := range pairs() {
		back := pair{x.dst, x.src}
		for _, h := range heads() {
			for _, inner := range inners() {
				b := slowPut(h, x, inner)
				mustBe(t, back, b, h, inner)
				if there := mustPut(t, h, back, inner); there != b {
					t.Errorf("%s, exchanged %s", shown(b), shown(there))
				}
			}
			mustRefuse(t, "exchanged, and sum", back, withSum(slowPut(h, x, whole4), 0x0101), api.ErrSum)
		}
	}
}

// P13.2: texts that are no addresses, and addresses of unlike lengths, are asked by the same rule.
func TestGetStrangeAddresses(t *testing.T) {
	for _, x := range strangePairs() {
		for _, inner := range []string{whole4, whole6, whole4 + "d", "\x45"} {
			for _, h := range heads() {
				b := slowPut(h, x, inner)
				mustGet(t, x, b)
				mustGet(t, x, withByte(b, 12, b[12]^1))
				mustGet(t, x, b[:len(b)-1])
				mustGet(t, pair{x.dst, x.src}, b)
				mustGet(t, pairs()[0], b)
			}
			mustBe(t, x, slowPut(heads()[0], x, inner), heads()[0], inner)
		}
	}
}

// P13.2: how many bytes there are stands in the pseudo header of 16 bytes by four bytes, in that of 4 by two; the longest datagram fits both.
func TestGetLongestWithSum(t *testing.T) {
	for _, x := range pairs() {
		for _, first := range []string{"\x45", "\x60"} {
			inner := first + strings.Repeat("\xa5", mostInner-1)
			b := slowPut(heads()[1], x, inner)
			mustBe(t, x, b, heads()[1], inner)
			mustRefuse(t, "last byte", x, b[:len(b)-1]+"\xa4", api.ErrSum)
		}
	}
}
