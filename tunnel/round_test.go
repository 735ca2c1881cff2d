package tunnel_test

import (
	"math/rand"
	"strings"
	"testing"

	"palanquin/api"
	"palanquin/tunnel"
)

// mustComeBack wraps a packet and unwraps it, and tells what it was wrapped in.
func mustComeBack(t *testing.T, x api.Tunnel, w tunnel.Way, inner string) string {
	t.Helper()
	p, e := tunnel.Wrap(x, w, inner)
	if e != api.OK {
		t.Fatalf("Wrap(%+v, %s, %s): %v", x, along(w), shown(inner), e)
	}
	gotX, gotW, got, e := tunnel.Unwrap(p)
	if gotX != x || gotW != back(x, w) || got != inner || e != api.OK {
		t.Fatalf("wrapped %+v, %s, %s; unwrapped %+v, %s, %s, %v", x, along(w), shown(inner), gotX, along(gotW), shown(got), e)
	}
	if again, e := tunnel.Wrap(gotX, gotW, got); again != p || e != api.OK {
		t.Fatalf("%s became %s, %v", shown(p), shown(again), e)
	}
	return p
}

// P14.4: packets of both versions and of many lengths come back, by each Mode, whatever the way.
func TestComesBack(t *testing.T) {
	for _, x := range tunnels() {
		for _, w := range ways() {
			for _, inner := range inners() {
				mustComeBack(t, x, w, inner)
			}
		}
	}
}

// P14.4: the longest packets come back.
func TestLongestComesBack(t *testing.T) {
	for _, x := range tunnels() {
		for _, w := range ways() {
			for _, ahead := range []string{"\x4f", "\x6f"} {
				for _, fill := range []string{"\x00", "x", "\xff"} {
					mustComeBack(t, x, w, ahead+strings.Repeat(fill, 65534-tunnel.Size(x)))
				}
			}
		}
	}
}

// P14.4: packets whose sums, and whose outer header's, are of every value that there is come back, what comes out 0 among them.
func TestEverySumComesBack(t *testing.T) {
	for _, x := range tunnels() {
		met := map[string]bool{}
		for n := range 65536 {
			w := ways()[0]
			w.ID = n
			p := mustComeBack(t, x, w, "\x45\x00"+two(n))
			met["outer "+p[10:12]] = true
			if x.Sum {
				at := 26 - 2*bit(x.Mode == api.GRE)
				met["own "+p[at:at+2]] = true
			}
		}
		if !met["outer \x00\x00"] || x.Sum && x.Mode == api.GRE && !met["own \x00\x00"] || x.Sum && x.Mode == api.GUE && (met["own \x00\x00"] || !met["own \xff\xff"]) {
			t.Errorf("%+v: a sum wasn't 0 where one should have been, or was where none should", x)
		}
	}
}

// P14.4: every Value of a key, by a bit alone, the least and the greatest, comes back.
func TestEveryKeyComesBack(t *testing.T) {
	for _, v := range values() {
		for _, with := range []bool{false, true} {
			for _, inner := range []string{whole4, whole6} {
				mustComeBack(t, api.Tunnel{Mode: api.GRE, Sum: with, Key: true, Value: v, TTL: 1}, ways()[0], inner)
			}
		}
	}
}

// P14.4: a wrapped packet can be wrapped again, by each Mode after each, and unwrapped twice.
func TestWrappedTwiceComesBack(t *testing.T) {
	for _, x := range tunnels() {
		for _, y := range tunnels() {
			for _, inner := range []string{whole4, whole6, "\x45", "\x60"} {
				once := mustComeBack(t, x, ways()[0], inner)
				twice := mustComeBack(t, y, ways()[2], once)
				if len(twice) != len(inner)+tunnel.Size(x)+tunnel.Size(y) {
					t.Errorf("%d bytes of %d", len(twice), len(inner))
				}
				mustBe(t, twice, y, ways()[2], once)
				_, _, outer, _ := tunnel.Unwrap(twice)
				mustBe(t, outer, x, ways()[0], inner)
			}
		}
	}
}

// P14.4: packets wrapped again and again come back, till one doesn't fit.
func TestWrappedOftenComesBack(t *testing.T) {
	for _, x := range tunnels() {
		p, ahead := whole6, []string{}
		for len(p)+tunnel.Size(x) <= 3000 {
			ahead = append(ahead, p)
			p = mustComeBack(t, x, ways()[0], p)
		}
		for i := len(ahead) - 1; i >= 0; i-- {
			_, _, inner, e := tunnel.Unwrap(p)
			if p = inner; p != ahead[i] || e != api.OK {
				t.Fatalf("%+v: %s, %v; want %s", x, shown(p), e, shown(ahead[i]))
			}
		}
	}
}

// P14.4: drawn tunnels, ways and packets come back.
func TestDrawnComeBack(t *testing.T) {
	draw := rand.New(rand.NewSource(146))
	for range 10000 {
		mustComeBack(t, drawnTunnel(draw), drawnWay(draw), drawnInner(draw, 1500))
	}
}

// P14.3, P14.4: whatever is unwrapped may be wrapped again: its tunnel is one that may be, and so is its way.
func TestUnwrappedMayBeWrapped(t *testing.T) {
	draw := rand.New(rand.NewSource(147))
	taken := 0
	for range 60000 {
		x, w, inner, e := tunnel.Unwrap(drawnBytes(draw))
		if e != api.OK {
			continue
		}
		taken++
		if e := tunnel.Check(x); e != api.OK {
			t.Fatalf("Check(%+v): %v", x, e)
		}
		mustComeBack(t, x, w, inner)
	}
	if taken < 5000 {
		t.Errorf("%d were taken", taken)
	}
}
