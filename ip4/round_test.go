package ip4_test

import (
	"math/rand"
	"strings"
	"testing"

	"palanquin/api"
	"palanquin/ip4"
)

// mustComeBack puts a header and a payload, and gets them.
func mustComeBack(t *testing.T, h api.Header4, payload string) string {
	t.Helper()
	p, e := ip4.Put(h, payload)
	if e != api.OK {
		t.Fatalf("Put(%#v, %d bytes): %v", h, len(payload), e)
	}
	got, back, e := ip4.Get(p)
	if got != h || back != payload || e != api.OK {
		t.Fatalf("put %#v, %d bytes; got %#v, %d bytes, %v", h, len(payload), got, len(back), e)
	}
	return p
}

// mustGoBack gets a packet, and puts what it got.
func mustGoBack(t *testing.T, p string) string {
	t.Helper()
	h, payload, e := ip4.Get(p)
	if e != api.OK {
		t.Fatalf("Get(%s): %v", shown(p), e)
	}
	if e := ip4.Check(h); e != api.OK {
		t.Fatalf("Get(%s): a header that may not be: %#v", shown(p), h)
	}
	again, e := ip4.Put(h, payload)
	if e != api.OK {
		t.Fatalf("Put(%#v, %d bytes): %v", h, len(payload), e)
	}
	return again
}

// P5.3: each number at each of its values, and so nearly each sum; none is FFFF.
func TestEveryNumberComesBack(t *testing.T) {
	sums := map[string]bool{}
	for _, x := range numbers() {
		for n := range x.most + 1 {
			h := plain()
			*x.of(&h) = n
			sums[mustComeBack(t, h, "")[10:12]] = true
		}
	}
	if !sums["\x00\x00"] || sums["\xff\xff"] || len(sums) != 65535 {
		t.Errorf("%d sums, with 0000: %v, with FFFF: %v", len(sums), sums["\x00\x00"], sums["\xff\xff"])
	}
}

// P5.3: every length of Options with payloads of none, few, and as many bytes as may be, and both flags.
func TestEveryLengthComesBack(t *testing.T) {
	for options := 0; options <= 40; options += 4 {
		for _, n := range []int{0, 1, 2, 3, 4, 5, 19, 20, 21, 1000, 65535 - 20 - options - 1, 65535 - 20 - options} {
			for flags := range 4 {
				h := plain()
				h.DF, h.MF = flags&1 == 1, flags&2 == 2
				h.Options = strings.Repeat("\x45\x00\xff\x80", options/4)
				p := mustComeBack(t, h, strings.Repeat("\x00", n))
				if again := mustGoBack(t, p); again != p {
					t.Errorf("options %d, payload %d: another packet", options, n)
				}
			}
		}
	}
}

// P5.3: drawn headers and payloads come back.
func TestDrawnComeBack(t *testing.T) {
	draw := rand.New(rand.NewSource(54))
	for range 5000 {
		mustComeBack(t, drawnHeader(draw), drawnText(draw, draw.Intn(100)))
	}
}

// P5.3: a packet within a packet comes back, and its header is no part of the outer one.
func TestWithinComesBack(t *testing.T) {
	p := mustComeBack(t, plain(), "innermost")
	for range 20 {
		h := plain()
		h.Proto = api.ProtoIP4
		p = mustComeBack(t, h, p)
	}
}

// P5.3: drawn bytes that are a packet go back to the same bytes.
func TestDrawnGoBack(t *testing.T) {
	draw := rand.New(rand.NewSource(55))
	for range 5000 {
		words := 5 + draw.Intn(11)
		p := drawnText(draw, 4*words+draw.Intn(50))
		p = saying(withByte(p, 0, byte(0x40+words)), len(p))
		p = withSum(withByte(p, 6, p[6]&0x7f))
		if again := mustGoBack(t, p); again != p {
			t.Fatalf("%s became %s", shown(p), shown(again))
		}
	}
}

// P5.3: with a sum FFFF what is got is put with 0000 there, and else as it was.
func TestSumOfAllOnesGoesBackAsZero(t *testing.T) {
	for options := 0; options <= 40; options += 4 {
		zeros := slowPut(headerWithSumZero(options), "payload")
		ones := zeros[:10] + "\xff\xff" + zeros[12:]
		if again := mustGoBack(t, ones); again != zeros {
			t.Errorf("%s became %s", shown(ones), shown(again))
		}
		if again := mustGoBack(t, zeros); again != zeros {
			t.Errorf("%s became %s", shown(zeros), shown(again))
		}
	}
}
