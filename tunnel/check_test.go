package tunnel_test

import (
	"math"
	"testing"

	"palanquin/api"
	"palanquin/tunnel"
)

// mustCheck says what Check and Size must tell.
func mustCheck(t *testing.T, x api.Tunnel, want api.Errno, size int) {
	t.Helper()
	if e := tunnel.Check(x); e != want {
		t.Errorf("Check(%+v): %v, want %v", x, e, want)
	}
	if n := tunnel.Size(x); n != size {
		t.Errorf("Size(%+v): %d, want %d", x, n, size)
	}
}

// values are keys: the least, the greatest, and each bit alone.
func values() []uint32 {
	l := []uint32{0, 0xff, 0xffff, 0xffff0000, math.MaxUint32}
	for bit := range 32 {
		l = append(l, 1<<bit)
	}
	return l
}

// P14.1: the chapter's sizes, and the others that there are.
func TestSizeKnown(t *testing.T) {
	for _, df := range []bool{false, true} {
		mustCheck(t, api.Tunnel{Mode: api.IPIP, DF: df}, api.OK, 20)
		mustCheck(t, api.Tunnel{Mode: api.GRE, DF: df}, api.OK, 24)
		mustCheck(t, api.Tunnel{Mode: api.GRE, Sum: true, DF: df}, api.OK, 28)
		mustCheck(t, api.Tunnel{Mode: api.GRE, Key: true, DF: df}, api.OK, 28)
		mustCheck(t, api.Tunnel{Mode: api.GRE, Sum: true, Key: true, DF: df}, api.OK, 32)
		mustCheck(t, api.Tunnel{Mode: api.GUE, DF: df}, api.OK, 32)
		mustCheck(t, api.Tunnel{Mode: api.GUE, Sum: true, DF: df}, api.OK, 32)
	}
}

// P14.1: numbers that are no Mode, alone, and beside all else that may be wrong.
func TestCheckNoMode(t *testing.T) {
	for _, mode := range noModes() {
		for _, x := range []api.Tunnel{
			{}, {TTL: 64, TOS: 1, DF: true}, {Sum: true}, {Key: true}, {Value: 1}, {Key: true, Value: 1}, {TTL: -1}, {TOS: 256}, {TTL: 256, TOS: -1, Sum: true, Value: 2},
		} {
			x.Mode = mode
			mustCheck(t, x, api.ErrMode, 0)
		}
	}
}

// P14.1: every TTL and every TOS that may be, and those outside, beside what a Mode doesn't have, too.
func TestCheckTTLAndTOS(t *testing.T) {
	for _, x := range tunnels() {
		size := slowSize(x)
		for n := range 256 {
			ttl, tos := x, x
			ttl.TTL, tos.TOS = n, n
			mustCheck(t, ttl, api.OK, size)
			mustCheck(t, tos, api.OK, size)
		}
		for _, n := range outside(255) {
			ttl, tos, both := x, x, x
			ttl.TTL, tos.TOS, both.TTL, both.TOS = n, n, n, n
			for _, y := range []api.Tunnel{ttl, tos, both} {
				mustCheck(t, y, api.ErrRange, size)
				y.Key, y.Value = false, 1
				mustCheck(t, y, api.ErrRange, slowSize(y))
				if y.Mode != api.GRE {
					y.Key = true
					mustCheck(t, y, api.ErrRange, slowSize(y))
				}
			}
		}
	}
}

// P14.1: each thing that a Mode doesn't have, alone and together: Check tells it, Size doesn't.
func TestCheckWhatItDoesNotHave(t *testing.T) {
	for _, v := range values()[1:] {
		for _, x := range []api.Tunnel{
			{Value: v}, {Sum: true}, {Key: true}, {Sum: true, Key: true}, {Sum: true, Value: v}, {Key: true, Value: v}, {Sum: true, Key: true, Value: v},
		} {
			x.Mode = api.IPIP
			mustCheck(t, x, api.ErrForm, 20)
		}
		for _, x := range []api.Tunnel{
			{Value: v}, {Key: true}, {Sum: true, Key: true}, {Sum: true, Value: v}, {Key: true, Value: v}, {Sum: true, Key: true, Value: v},
		} {
			x.Mode = api.GUE
			mustCheck(t, x, api.ErrForm, 32)
		}
		mustCheck(t, api.Tunnel{Mode: api.GRE, Value: v}, api.ErrForm, 24)
		mustCheck(t, api.Tunnel{Mode: api.GRE, Sum: true, Value: v}, api.ErrForm, 28)
	}
}

// P14.1: each thing that a Mode has, a Value 0 with Key among them.
func TestCheckWhatItHas(t *testing.T) {
	for _, v := range values() {
		mustCheck(t, api.Tunnel{Mode: api.GRE, Key: true, Value: v}, api.OK, 28)
		mustCheck(t, api.Tunnel{Mode: api.GRE, Sum: true, Key: true, Value: v, DF: true}, api.OK, 32)
	}
}

// P14.1: all that the edges make together, held against the slow ones.
func TestCheckAllTogether(t *testing.T) {
	met := map[api.Errno]int{}
	edges := []int{-1, 0, 255, 256}
	for mode := -2; mode < 7; mode++ {
		for _, ttl := range edges {
			for _, tos := range edges {
				for _, v := range []uint32{0, 1, math.MaxUint32} {
					for bits := range 8 {
						x := api.Tunnel{Mode: mode, TTL: ttl, TOS: tos, Value: v, Sum: bits&1 > 0, Key: bits&2 > 0, DF: bits&4 > 0}
						mustCheck(t, x, slowCheck(x), slowSize(x))
						met[slowCheck(x)]++
					}
				}
			}
		}
	}
	for _, e := range []api.Errno{api.OK, api.ErrMode, api.ErrRange, api.ErrForm} {
		if met[e] < 40 {
			t.Errorf("error %v was met %d times", e, met[e])
		}
	}
}

// P14.1: a wrapped packet has just so many bytes more, of either version, whatever it is.
func TestSizeIsWhatIsMore(t *testing.T) {
	for _, x := range tunnels() {
		for _, w := range ways() {
			for _, inner := range inners() {
				p, e := tunnel.Wrap(x, w, inner)
				if e != api.OK || len(p)-len(inner) != tunnel.Size(x) {
					t.Fatalf("Wrap(%+v, %s, %s): %d bytes more, %v; Size: %d", x, along(w), shown(inner), len(p)-len(inner), e, tunnel.Size(x))
				}
			}
		}
	}
}
