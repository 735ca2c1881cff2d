package clamp_test

import (
	"math/rand"
	"testing"

	"palanquin/clamp"
	"palanquin/flow"
)

// P10.2: what is known of some widths.
func TestLimitKnown(t *testing.T) {
	for _, x := range []struct{ mtu, over, four, six int }{
		{1500, 0, 1460, 1440}, {1500, 20, 1440, 1420}, {1500, 24, 1436, 1416}, {1500, 36, 1424, 1404}, {576, 0, 536, 516}, {9000, 20, 8940, 8920},
		{65535, 0, 65495, 65475}, {65535, 65535, 0, 0}, {0, 0, 0, 0}, {0, -1500, 1460, 1440}, {-100, -200, 60, 40},
	} {
		mustLimit(t, x.mtu, x.over, false, x.four)
		mustLimit(t, x.mtu, x.over, true, x.six)
	}
}

func mustLimit(t *testing.T, mtu, over int, six bool, want int) {
	t.Helper()
	if n := clamp.Limit(mtu, over, six); n != want {
		t.Errorf("Limit(%d, %d, %v): %d; want %d", mtu, over, six, n, want)
	}
}

// P10.2: one by one about 0 and about 65535, whatever is taken.
func TestLimitEdges(t *testing.T) {
	const greatest = 1 << 40
	for _, over := range []int{0, 1, 20, 65535, -1, -20, 1 << 20, -1 << 20, greatest - 1<<17, -greatest} {
		for _, x := range []struct {
			six   bool
			ahead int
		}{{false, 40}, {true, 60}} {
			for n := -3; n < 4; n++ {
				mustLimit(t, over+x.ahead+n, over, x.six, max(n, 0))
				mustLimit(t, over+x.ahead+65535+n, over, x.six, 65535+min(n, 0))
			}
		}
	}
}

// P10.2: as small and as great as both may be, where each wraps round if it is held in 32 bits.
func TestLimitGreatest(t *testing.T) {
	const greatest = 1 << 40
	for _, six := range []bool{false, true} {
		ahead := 40
		if six {
			ahead = 60
		}
		mustLimit(t, greatest, greatest, six, 0)
		mustLimit(t, -greatest, -greatest, six, 0)
		mustLimit(t, greatest, -greatest, six, 65535)
		mustLimit(t, -greatest, greatest, six, 0)
		mustLimit(t, greatest, 0, six, 65535)
		mustLimit(t, 0, greatest, six, 0)
		mustLimit(t, 0, -greatest, six, 65535)
		mustLimit(t, -greatest, 0, six, 0)
		mustLimit(t, greatest, greatest-1500, six, 1500-ahead)
		mustLimit(t, 1500-greatest, -greatest, six, 1500-ahead)
		for _, n := range []int{1 << 16, 1 << 31, 1 << 32, 1<<32 + 1500, 1 << 33} {
			mustLimit(t, n, 0, six, min(n-ahead, 65535))
			mustLimit(t, 0, n, six, 0)
			mustLimit(t, -n, 0, six, 0)
			mustLimit(t, 1500, -n, six, 65535)
		}
	}
}

// P10.2: drawn ones, held against what the chapter says.
func TestLimitDrawn(t *testing.T) {
	draw := rand.New(rand.NewSource(102))
	for range 100000 {
		mtu := draw.Intn(1<<41+1) - 1<<40
		over := draw.Intn(1<<41+1) - 1<<40
		if draw.Intn(2) == 0 {
			over = min(max(mtu-draw.Intn(1<<17)+1<<15, -1<<40), 1<<40)
		}
		mustLimit(t, mtu, over, false, min(max(mtu-over-40, 0), 65535))
		mustLimit(t, mtu, over, true, min(max(mtu-over-60, 0), 65535))
	}
}

// P10.2: a segment of as many bytes as the limit, without options, just fits into a packet of what isn't taken.
func TestLimitFits(t *testing.T) {
	for _, v := range versions() {
		if v.name == "IPv4 with options" {
			continue
		}
		for mtu := 576; mtu < 700; mtu++ {
			for _, over := range []int{0, 20, 24, 36} {
				n := clamp.Limit(mtu, over, v.name == "IPv6")
				p := v.of(segment{16, "", string(make([]byte, n))})
				if _, e := flow.Get(p); e != 0 || len(p)+over != mtu {
					t.Errorf("%s, %d less %d: a packet of %d bytes, %v", v.name, mtu, over, len(p), e)
				}
			}
		}
	}
}
