package gue_test

import (
	"math/rand"
	"strings"
	"testing"

	"palanquin/api"
	"palanquin/gue"
)

// mustComeBack puts a packet between addresses, and gets it between such ones.
func mustComeBack(t *testing.T, h gue.Head, x pair, inner string) string {
	t.Helper()
	b, e := gue.Put(h, x.src, x.dst, inner)
	if e != api.OK {
		t.Fatalf("Put(%s, %s, %s): %v", told(h), between(x), shown(inner), e)
	}
	like := pair{strings.Clone(x.src), strings.Clone(x.dst)}
	if got, back, e := gue.Get(like.src, like.dst, b); got != h || back != inner || e != api.OK {
		t.Fatalf("put %s, %s, %s; got %s, %s, %v", told(h), between(x), shown(inner), told(got), shown(back), e)
	}
	return b
}

// P13.3: packets of both versions and of many lengths come back, from many ports, with and without a sum.
func TestComesBack(t *testing.T) {
	for _, x := range pairs() {
		for _, inner := range inners() {
			for _, h := range heads() {
				mustComeBack(t, h, x, inner)
			}
		}
		for _, port := range ports() {
			for _, with := range []bool{false, true} {
				for _, inner := range []string{whole4, whole6, "\x45", "\x60a"} {
					mustComeBack(t, gue.Head{Port: port, Sum: with}, x, inner)
				}
			}
		}
	}
}

// P13.3: packets whose sums are of every value that there is come back, and what would come out 0 among them.
func TestEverySumComesBack(t *testing.T) {
	for _, x := range pairs() {
		met := false
		for n := range 65536 {
			b := mustComeBack(t, heads()[1], x, "\x60\x00"+two(n))
			met = met || b[6:8] == "\xff\xff"
		}
		if !met {
			t.Errorf("%s: no sum was FFFF", between(x))
		}
	}
}

// P13.3: addresses of unlike lengths bring it back, too.
func TestUnlikeLengthsComeBack(t *testing.T) {
	four, six := pairs()[0], pairs()[1]
	for _, x := range []pair{{four.src, six.dst}, {six.src, four.dst}} {
		for _, h := range heads() {
			for _, inner := range inners() {
				mustComeBack(t, h, x, inner)
			}
		}
	}
}

// P13.3: drawn ports, addresses and packets come back, of even and odd numbers of bytes.
func TestDrawnComeBack(t *testing.T) {
	draw := rand.New(rand.NewSource(137))
	for range 10000 {
		mustComeBack(t, drawnHead(draw), drawnPair(draw), drawnInner(draw, 1500))
	}
}

// P13.1, P13.2: drawn bytes that are taken go back to the same bytes, since but one sum that isn't 0 is right.
func TestDrawnGoBack(t *testing.T) {
	draw := rand.New(rand.NewSource(138))
	taken := 0
	for range 60000 {
		x := drawnPair(draw)
		b := drawnBytes(draw, x)
		h, inner, e := gue.Get(x.src, x.dst, b)
		if e != api.OK {
			continue
		}
		taken++
		if again := mustPut(t, h, x, inner); again != b {
			t.Fatalf("%s became %s", shown(b), shown(again))
		}
	}
	if taken < 5000 {
		t.Errorf("%d were taken", taken)
	}
}

// P13.3: a packet within a packet comes back, and the inner headers are no part of the outer one.
func TestWithinComesBack(t *testing.T) {
	for _, first := range []string{whole4[:20], whole6[:40]} {
		for _, x := range pairs() {
			b := mustComeBack(t, heads()[1], x, whole4)
			for n := range 20 {
				b = mustComeBack(t, heads()[n%2], x, first+b)
			}
		}
	}
}
