package clamp_test

import (
	"math/rand"
	"strings"
	"testing"

	"palanquin/api"
	"palanquin/clamp"
	"palanquin/flow"
	"palanquin/sum"
)

// mustKeep holds what a packet must keep that is clamped by a limit below its MSS, and tells it clamped.
func mustKeep(t *testing.T, p string, limit int) string {
	t.Helper()
	q := clamp.Clamp(p, limit)
	f, e := flow.Get(p)
	if g, d := flow.Get(q); g != f || d != e || d != api.OK {
		t.Fatalf("Clamp(%s, %d): %s: %#v, %v; want %#v", shown(p), limit, shown(q), g, d, f)
	}
	if len(q) != len(p) {
		t.Fatalf("Clamp(%s, %d): %d bytes; want %d", shown(p), limit, len(q), len(p))
	}
	at, ok := slowFind(p)
	if !ok || q == p {
		t.Fatalf("Clamp(%s, %d): as it was", shown(p), limit)
	}
	head, _, _ := slowHead(p)
	sumAt := head + 16
	if p != withTwo(withTwo(q, at, numberAt(p, at)), sumAt, numberAt(p, sumAt)) {
		t.Fatalf("Clamp(%s, %d): %s: it differs beside the MSS and the sum", shown(p), limit, shown(q))
	}
	mustTell(t, "clamped", q, limit, true)
	if sealed := flow.Seal(f.Proto, f.Src, f.Dst, q[head:]); sealed != q[head:] {
		t.Fatalf("Clamp(%s, %d): %s: another sum than Seal's", shown(p), limit, shown(q))
	}
	return q
}

// P10.3: clamped again it stays, and by a greater limit; by a smaller one it is as if it had been clamped by that one alone.
func TestKeptAgain(t *testing.T) {
	eachVersion(t, func(t *testing.T, v version) {
		for _, ahead := range []string{"", "\x01", "\x04\x02", "\x03\x03\x07"} {
			p := v.of(segment{syn, padded(ahead + mss1460), "hello"})
			for _, limit := range []int{0, 1, 2, 255, 256, 536, 1400, 1458, 1459} {
				q := mustKeep(t, p, limit)
				for _, more := range []int{0, 1, 10, 1460, 65535, 1 << 40} {
					if again := clamp.Clamp(q, limit+more); again != q {
						t.Errorf("by %d, then by %d: %s; want %s", limit, limit+more, shown(again), shown(q))
					}
				}
				for _, less := range []int{limit - 1, limit / 2, 0, -1} {
					if again := clamp.Clamp(q, less); again != clamp.Clamp(p, less) {
						t.Errorf("by %d, then by %d: %s", limit, less, shown(again))
					}
				}
			}
		}
	})
}

// P10.3: step by step down from 65535 to 0, at an even place and at an odd one.
func TestKeptStepByStep(t *testing.T) {
	eachVersion(t, func(t *testing.T, v version) {
		for _, ahead := range []string{"", "\x01"} {
			p := v.of(segment{syn, padded(ahead + option(65535)), "hello"})
			q := p
			for limit := 65534; limit >= 0; limit -= 7 {
				q = mustKeep(t, q, limit)
				if q != clamp.Clamp(p, limit) {
					t.Fatalf("limit %d: %s", limit, shown(q))
				}
			}
		}
	})
}

// P10.3: at an even place the sum is layer 2's Update of it.
func TestKeptSumIsUpdated(t *testing.T) {
	eachVersion(t, func(t *testing.T, v version) {
		for _, mss := range []int{1, 255, 256, 1460, 0x1234, 65280, 65535} {
			for ahead := 0; ahead < 8; ahead += 2 {
				p := v.of(segment{syn, padded(strings.Repeat("\x01", ahead) + option(mss)), "hello"})
				for limit := 0; limit < mss; limit += 1 + limit/100 {
					own := numberAt(p, v.head+16)
					q := clamp.Clamp(p, limit)
					if n := numberAt(q, v.head+16); n != sum.Update(own, mss, limit) {
						t.Fatalf("MSS %d, limit %d: sum %#x; want %#x", mss, limit, n, sum.Update(own, mss, limit))
					}
				}
			}
		}
	})
}

// summingToZero is a segment whose sum comes out as 0, by its Urgent.
func summingToZero(v version, s segment) string {
	b := withTwo(bytesOf(s), 18, 0)
	return withTwo(b, 18, slowSum(slowAhead(v.src, v.dst, len(b))+b))
}

// P10.3: a sum of FFFF holds where Seal puts 0; clamped, the sum is Seal's all the same, at whatever place the MSS is.
func TestKeptSumThatIsNotSeals(t *testing.T) {
	eachVersion(t, func(t *testing.T, v version) {
		for _, ahead := range []string{"", "\x01", "\x04\x02"} {
			for _, mss := range []int{1, 255, 256, 1460, 65279, 65280, 65281, 65534, 65535} {
				b := summingToZero(v, segment{syn, padded(ahead + option(mss)), "hello"})
				if v.sealed(b) != b {
					t.Fatalf("MSS %d: the sum isn't 0: %s", mss, shown(v.sealed(b)))
				}
				zero, ones := v.put(6, b), v.put(6, withTwo(b, 16, 65535))
				mustTell(t, "0", zero, mss, true)
				mustTell(t, "FFFF", ones, mss, true)
				for _, limit := range []int{0, 1, mss / 2, mss - 1} {
					if limit >= mss {
						continue
					}
					if p, q := mustKeep(t, zero, limit), mustKeep(t, ones, limit); p != q {
						t.Errorf("MSS %d, limit %d: %s, %s", mss, limit, shown(p), shown(q))
					}
				}
				for _, limit := range []int{mss, mss + 1, 65535} {
					if q := clamp.Clamp(ones, limit); q != ones {
						t.Errorf("MSS %d, limit %d: %s; a packet that isn't clamped keeps its sum", mss, limit, shown(q))
					}
				}
			}
		}
	})
}

// P10.3: every sum that a segment may have, and every one that it may get.
func TestKeptEverySum(t *testing.T) {
	eachVersion(t, func(t *testing.T, v version) {
		for _, x := range []struct {
			ahead      string
			mss, limit int
		}{{"", 65535, 0}, {"\x01", 1460, 1400}} {
			b := bytesOf(segment{syn, padded(x.ahead + option(x.mss)), "hello"})
			got := map[int]bool{}
			for n := range 65536 {
				q := mustClamp(t, v.put(6, v.sealed(withTwo(b, 18, n))), x.limit)
				got[numberAt(q, v.head+16)] = true
			}
			if len(got) != 65535 || got[65535] {
				t.Errorf("MSS %d, limit %d: %d sums, with FFFF: %v", x.mss, x.limit, len(got), got[65535])
			}
		}
	})
}

// P10.3: drawn segments, whatever stands beside the MSS.
func TestKeptDrawn(t *testing.T) {
	draw := rand.New(rand.NewSource(103))
	eachVersion(t, func(t *testing.T, v version) {
		for range 20000 {
			mss := 1 + draw.Intn(65535)
			options := strings.Repeat("\x01", draw.Intn(5)) + option(mss) + strings.Repeat("\x03\x03\x07", draw.Intn(3))
			b := bytesOf(segment{draw.Intn(256) | syn, padded(options), drawnText(draw, draw.Intn(40))})
			b = drawnText(draw, 12) + b[12:14] + drawnText(draw, 6) + b[20:]
			p := v.put(6, v.sealed(b))
			limit := draw.Intn(mss)
			if q := mustKeep(t, p, limit); clamp.Clamp(q, limit) != q || clamp.Clamp(q, limit+draw.Intn(70000)) != q {
				t.Fatalf("clamped again: %s", shown(q))
			}
		}
	})
}
