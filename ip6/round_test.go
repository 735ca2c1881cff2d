package ip6_test

import (
	"math/rand"
	"strings"
	"testing"

	"palanquin/api"
	"palanquin/ip6"
)

// mustComeBack puts a header and a payload, and gets them.
func mustComeBack(t *testing.T, h api.Header6, payload string) string {
	t.Helper()
	p, e := ip6.Put(h, payload)
	if e != api.OK {
		t.Fatalf("Put(%#v, %d bytes): %v", h, len(payload), e)
	}
	got, back, e := ip6.Get(p)
	if got != h || back != payload || e != api.OK {
		t.Fatalf("put %#v, %d bytes; got %#v, %d bytes, %v", h, len(payload), got, len(back), e)
	}
	return p
}

// mustGoBack gets a packet, and puts what it got.
func mustGoBack(t *testing.T, p string) {
	t.Helper()
	h, payload, e := ip6.Get(p)
	if e != api.OK {
		t.Fatalf("Get(%s): %v", shown(p), e)
	}
	if e := ip6.Check(h); e != api.OK {
		t.Fatalf("Get(%s): a header that may not be: %#v", shown(p), h)
	}
	if again, e := ip6.Put(h, payload); again != p || e != api.OK {
		t.Fatalf("%s became %s, %v", shown(p), shown(again), e)
	}
}

// P6.3: each number at each of its values comes back, and the packet goes back.
func TestEveryNumberComesBack(t *testing.T) {
	for _, x := range numbers() {
		for n := range x.most + 1 {
			h := plain()
			*x.of(&h) = n
			mustGoBack(t, mustComeBack(t, h, ""))
		}
	}
}

// P6.3: payloads of none, few, and as many bytes as may be.
func TestEveryLengthComesBack(t *testing.T) {
	for _, n := range []int{0, 1, 2, 39, 40, 41, 255, 256, 257, 1000, 65494, 65495, 65496, 65534, 65535} {
		for _, with := range []string{"\x00", "\x60", "\xff"} {
			mustGoBack(t, mustComeBack(t, plain(), strings.Repeat(with, n)))
		}
	}
}

// P6.3: drawn headers and payloads come back.
func TestDrawnComeBack(t *testing.T) {
	draw := rand.New(rand.NewSource(63))
	for range 5000 {
		mustComeBack(t, drawnHeader(draw), drawnText(draw, draw.Intn(100)))
	}
}

// P6.3: drawn bytes that are a packet go back to the same bytes.
func TestDrawnGoBack(t *testing.T) {
	draw := rand.New(rand.NewSource(64))
	for range 5000 {
		p := drawnText(draw, 40+draw.Intn(100))
		mustGoBack(t, saying(withByte(p, 0, 0x60|p[0]&15), len(p)-40))
	}
}

// P6.3: a packet within a packet comes back, and its header is no part of the outer one.
func TestWithinComesBack(t *testing.T) {
	p := mustComeBack(t, plain(), "innermost")
	for range 20 {
		h := plain()
		h.Next = api.ProtoIP6
		p = mustComeBack(t, h, p)
	}
}
