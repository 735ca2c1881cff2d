package gre_test

import (
	"math/rand"
	"testing"

	"palanquin/api"
	"palanquin/gre"
)

// mustComeBack puts a header and a packet, and gets them.
func mustComeBack(t *testing.T, h gre.Head, inner string) string {
	t.Helper()
	b, e := gre.Put(h, inner)
	if e != api.OK {
		t.Fatalf("Put(%s, %s): %v", told(h), shown(inner), e)
	}
	if got, back, e := gre.Get(b); got != h || back != inner || e != api.OK {
		t.Fatalf("put %s, %s; got %s, %s, %v", told(h), shown(inner), told(got), shown(back), e)
	}
	return b
}

// mustGoBack gets a text, and tells what it is once what it got is put.
func mustGoBack(t *testing.T, b string) string {
	t.Helper()
	h, inner, e := gre.Get(b)
	if e != api.OK {
		t.Fatalf("Get(%s): %v", shown(b), e)
	}
	again, e := gre.Put(h, inner)
	if e != api.OK {
		t.Fatalf("Put(%s, %s): %v", told(h), shown(inner), e)
	}
	return again
}

// P12.3: packets of both versions behind each of the four headers come back, and their bytes go back.
func TestEachHeaderComesBack(t *testing.T) {
	for _, h := range heads() {
		for _, inner := range inners() {
			b := mustComeBack(t, h, inner)
			if again := mustGoBack(t, b); again != b {
				t.Errorf("%s became %s", shown(b), shown(again))
			}
		}
	}
}

// P12.3: every key comes back, with and without a sum.
func TestEveryKeyComesBack(t *testing.T) {
	for _, key := range keys() {
		for _, inner := range []string{whole4, whole6, "\x45", "\x60a"} {
			mustComeBack(t, gre.Head{Key: true, Value: key}, inner)
			mustComeBack(t, gre.Head{Sum: true, Key: true, Value: key}, inner)
		}
	}
}

// P12.3: a key without K, which isn't told, comes back as 0; all else as it was.
func TestKeyWithoutKComesBackAsZero(t *testing.T) {
	for _, key := range keys() {
		for _, with := range []bool{false, true} {
			b, e := gre.Put(gre.Head{Sum: with, Value: key}, whole4)
			if e != api.OK {
				t.Fatalf("sum %v, key %#x: %v", with, key, e)
			}
			mustBe(t, b, gre.Head{Sum: with}, whole4)
		}
	}
}

// P12.3: packets whose sums are of every value that there is come back, the sum 0 among them.
func TestEverySumComesBack(t *testing.T) {
	for _, h := range headsWithSum() {
		for n := range 65536 {
			b := mustComeBack(t, h, "\x60\x00"+two(n))
			if again := mustGoBack(t, b); again != b {
				t.Errorf("%s became %s", shown(b), shown(again))
			}
		}
	}
}

// P12.3: with a sum FFFF what is got is put with 0000 there, and else as it was.
func TestSumOfAllOnesGoesBackAsZero(t *testing.T) {
	for _, h := range headsWithSum() {
		zeros := slowPut(h, innerWithSum(h, 0))
		ones := withSum(zeros, 0xffff)
		if again := mustGoBack(t, ones); again != zeros {
			t.Errorf("%s became %s", shown(ones), shown(again))
		}
		if again := mustGoBack(t, zeros); again != zeros {
			t.Errorf("%s became %s", shown(zeros), shown(again))
		}
	}
}

// P12.3: drawn headers and packets come back, of even and odd numbers of bytes.
func TestDrawnComeBack(t *testing.T) {
	draw := rand.New(rand.NewSource(127))
	for range 10000 {
		mustComeBack(t, drawnHead(draw), drawnInner(draw, 1500))
	}
}

// P12.3: drawn bytes that are taken go back to the same bytes.
func TestDrawnGoBack(t *testing.T) {
	draw := rand.New(rand.NewSource(128))
	taken := 0
	for range 60000 {
		b := drawnBytes(draw)
		h, _, e := gre.Get(b)
		if e != api.OK || h.Sum && b[4:6] == "\xff\xff" {
			continue
		}
		taken++
		if again := mustGoBack(t, b); again != b {
			t.Fatalf("%s became %s", shown(b), shown(again))
		}
	}
	if taken < 5000 {
		t.Errorf("%d were taken", taken)
	}
}

// P12.3: a packet within a packet comes back, and the inner headers are no part of the outer one.
func TestWithinComesBack(t *testing.T) {
	for _, first := range []string{whole4[:20], whole6[:40]} {
		b := mustComeBack(t, gre.Head{Sum: true, Key: true, Value: 9}, whole4)
		for n := range 20 {
			h := heads()[n%4]
			b = mustComeBack(t, h, first+b)
		}
	}
}
