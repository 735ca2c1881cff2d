package frag_test

import (
	"math"
	"math/rand"
	"testing"

	"palanquin/frag"
)

// P15.1: sizes that are known.
func TestPartKnown(t *testing.T) {
	for _, x := range []struct{ header, mtu, want int }{
		{20, 60, 40}, {20, 1500, 1480}, {20, 1499, 1472}, {20, 576, 552}, {24, 576, 552}, {25, 576, 544}, {60, 576, 512}, {20, 65535, 65512},
		{60, 65535, 65472}, {0, 7, 0}, {0, 8, 8}, {0, 15, 8}, {0, 16, 16}, {1, 8, 0}, {1, 9, 8}, {20, 27, 0}, {20, 28, 8}, {20, 35, 8}, {20, 36, 16},
		{60, 67, 0}, {60, 68, 8}, {60, 75, 8}, {60, 76, 16},
	} {
		if n := frag.Part(x.header, x.mtu); n != x.want {
			t.Errorf("Part(%d, %d): %d, want %d", x.header, x.mtu, n, x.want)
		}
	}
}

// P15.1: the edges of the header and of the mtu.
func TestPartEdges(t *testing.T) {
	for _, header := range []int{0, 1, 7, 8, 9, 19, 20, 21, 24, 59, 60, 61, 65535, 1<<20 - 1, 1 << 20} {
		for _, x := range []struct{ mtu, want int }{
			{0, 0}, {header / 2, 0}, {header - bit(header > 0), 0}, {header, 0}, {header + 1, 0}, {header + 7, 0}, {header + 8, 8}, {header + 9, 8},
			{header + 15, 8}, {header + 16, 16}, {header + 17, 16}, {header + 8191, 8184}, {header + 8192, 8192}, {1 << 40, (1<<40 - header) / 8 * 8},
			{1<<40 - 1, (1<<40 - 1 - header) / 8 * 8},
		} {
			if n := frag.Part(header, x.mtu); n != x.want {
				t.Errorf("Part(%d, %d): %d, want %d", header, x.mtu, n, x.want)
			}
		}
	}
}

// P15.1: every header of few bytes with every small mtu, against the slow one.
func TestPartEverySmall(t *testing.T) {
	for header := range 130 {
		for mtu := range 330 {
			if n, want := frag.Part(header, mtu), slowPart(header, mtu); n != want {
				t.Fatalf("Part(%d, %d): %d, want %d", header, mtu, n, want)
			}
		}
	}
}

// P15.1: drawn numbers of all sizes: a multiple of 8 that is not above the mtu, with 8 more above it.
func TestPartDrawn(t *testing.T) {
	draw := rand.New(rand.NewSource(151))
	for range 200000 {
		header, mtu := draw.Intn(1<<draw.Intn(21)+1), draw.Intn(1<<draw.Intn(41)+1)
		n := frag.Part(header, mtu)
		fits := n == 0 || n > 0 && n%8 == 0 && header+n <= mtu
		if !fits || header+n+8 <= mtu {
			t.Fatalf("Part(%d, %d): %d", header, mtu, n)
		}
	}
}

// P15.1: an mtu that is less than the size, just as much, and greater.
func TestUsable(t *testing.T) {
	for _, x := range []struct{ mtu, size, want int }{
		{1500, 20, 1480}, {1500, 32, 1468}, {576, 20, 556}, {65535, 0, 65535}, {0, 0, 0}, {0, 1, 0}, {19, 20, 0}, {20, 20, 0}, {21, 20, 1}, {10, 20, 0},
		{1, 1 << 40, 0}, {1 << 40, 1, 1<<40 - 1}, {-1, 0, 0}, {-1, -1, 0}, {-2, -1, 0}, {-1, -2, 1}, {0, -5, 5}, {5, -5, 10}, {-5, 5, 0},
		{math.MaxInt, 0, math.MaxInt}, {math.MaxInt, math.MaxInt, 0}, {0, math.MaxInt, 0}, {math.MinInt, 0, 0}, {math.MinInt, math.MinInt, 0},
	} {
		if n := frag.Usable(x.mtu, x.size); n != x.want {
			t.Errorf("Usable(%d, %d): %d, want %d", x.mtu, x.size, n, x.want)
		}
	}
}

// P15.1: the difference is that of 64 bits.
func TestUsableWraps(t *testing.T) {
	for _, x := range []struct{ mtu, size, want int }{
		{math.MinInt, 1, math.MaxInt}, {math.MinInt, 2, math.MaxInt - 1}, {math.MaxInt, -1, 0}, {math.MinInt, math.MaxInt, 1}, {0, math.MinInt, 0},
		{-1, math.MinInt, math.MaxInt}, {-2, math.MaxInt, math.MaxInt},
	} {
		if n := frag.Usable(x.mtu, x.size); n != x.want {
			t.Errorf("Usable(%d, %d): %d, want %d", x.mtu, x.size, n, x.want)
		}
	}
}

// P15.1: every small mtu and size.
func TestUsableEverySmall(t *testing.T) {
	for mtu := range 200 {
		for size := range 200 {
			n := frag.Usable(mtu, size)
			if mtu < size && n != 0 || mtu >= size && n+size != mtu {
				t.Fatalf("Usable(%d, %d): %d", mtu, size, n)
			}
		}
	}
}

// P15.1: of numbers that nothing is promised of, no panic.
func TestPartBeyond(t *testing.T) {
	numbers := []int{math.MinInt, math.MinInt + 1, -1 << 40, -65536, -20, -8, -1, 0, 1, 8, 20, 1<<20 + 1, 1<<40 + 1, math.MaxInt - 1, math.MaxInt}
	for _, header := range numbers {
		for _, mtu := range numbers {
			if frag.Part(header, mtu) != frag.Part(header, mtu) {
				t.Errorf("Part(%d, %d): not the same twice", header, mtu)
			}
		}
	}
}
