package addr_test

import (
	"net/netip"
	"strings"
	"testing"

	"palanquin/addr"
	"palanquin/api"
)

// P4.1: the chapter's examples, and texts that are told elsewhere (RFC 5952, 4).
func TestPrintKnownAddresses(t *testing.T) {
	for _, c := range []struct{ a, want string }{
		{"\x7f\x00\x00\x01", "127.0.0.1"},
		{of16(0, 0, 0, 0, 0, 0, 0, 1), "::1"},
		{of16(1, 0, 0, 0, 2, 0, 0, 3), "1::2:0:0:3"},
		{of16(0x2001, 0xdb8, 0, 0, 0, 0, 2, 1), "2001:db8::2:1"},
		{of16(0x2001, 0xdb8, 0, 1, 1, 1, 1, 1), "2001:db8:0:1:1:1:1:1"},
		{of16(0x2001, 0, 0, 1, 0, 0, 0, 1), "2001:0:0:1::1"},
		{of16(0x2001, 0xdb8, 0, 0, 1, 0, 0, 1), "2001:db8::1:0:0:1"},
		{of16(0, 0, 0, 0, 0, 0xffff, 0x0102, 0x0304), "::ffff:102:304"},
		{"1234", "49.50.51.52"},
	} {
		if got, e := addr.Print(c.a); got != c.want || e != api.OK {
			t.Errorf("%q: %q %v, want %q", c.a, got, e, c.want)
		}
		if got, e := addr.Parse(c.want); got != c.a || e != api.OK {
			t.Errorf("%q: %q %v, want %q", c.want, got, e, c.a)
		}
	}
}

// P4.1: bytes of every length but 4 and 16 are no address, whatever they hold.
func TestPrintOfOtherLengths(t *testing.T) {
	lengths := []int{255, 256, 260, 272, 65536 + 4, 65536 + 16, 1 << 20}
	for n := range 100 {
		lengths = append(lengths, n)
	}
	for _, n := range lengths {
		for _, b := range []string{"\x00", "\xff", "1"} {
			s, e := addr.Print(strings.Repeat(b, n))
			if n == 4 || n == 16 {
				if s == "" || e != api.OK {
					t.Errorf("%d bytes: %q %v", n, s, e)
				}
			} else if s != "" || e != api.ErrRange {
				t.Errorf("%d bytes: %q %v", n, s, e)
			}
		}
	}
	// A text isn't the address that it tells.
	for _, s := range []string{"127.0.0.1", "::1", "0.0.0.0"} {
		if got, e := addr.Print(s); got != "" || e != api.ErrRange {
			t.Errorf("%q: %q %v", s, got, e)
		}
	}
}

// P4.1: each byte's every number, at each place, among least and greatest ones.
func TestPrintOfEachByte(t *testing.T) {
	for _, length := range []int{4, 16} {
		for _, others := range []string{"\x00", "\x01", "\xff"} {
			for i := range length {
				for n := range 256 {
					a := []byte(strings.Repeat(others, length))
					a[i] = byte(n)
					mustPrint(t, string(a))
				}
			}
		}
	}
}

// P4.1: a number of two bytes, whichever it is.
func TestPrintOfEachNumber(t *testing.T) {
	for n := range 65536 {
		mustPrint(t, of16(n, 1, 2, 3, 4, 5, 6, n))
	}
}

// P4.1: rows of noughts of every length, in every place and beside every other: all 256 ways there are, with numbers
// that have noughts within.
func TestPrintOfEveryRow(t *testing.T) {
	for _, other := range []int{1, 0x10, 0x100, 0x1000, 0x100f, 0xff00, 0xffff} {
		for mask := range 256 {
			numbers := make([]int, 8)
			for i := range numbers {
				if mask>>i&1 == 1 {
					numbers[i] = other
				}
			}
			mustPrint(t, of16(numbers...))
		}
	}
}

// P4.1: the edges of rows, spelt out.
func TestPrintOfRowsByHand(t *testing.T) {
	for _, c := range []struct{ want, a string }{
		{"::", of16(0, 0, 0, 0, 0, 0, 0, 0)},
		{"::8", of16(0, 0, 0, 0, 0, 0, 0, 8)},
		{"::7:8", of16(0, 0, 0, 0, 0, 0, 7, 8)},
		{"::3:4:5:6:7:8", of16(0, 0, 3, 4, 5, 6, 7, 8)},
		{"0:2:3:4:5:6:7:8", of16(0, 2, 3, 4, 5, 6, 7, 8)},
		{"1:2:3:0:5:6:7:8", of16(1, 2, 3, 0, 5, 6, 7, 8)},
		{"1:2:3::6:7:8", of16(1, 2, 3, 0, 0, 6, 7, 8)},
		{"1::8", of16(1, 0, 0, 0, 0, 0, 0, 8)},
		{"1:2:3:4:5:6:7:0", of16(1, 2, 3, 4, 5, 6, 7, 0)},
		{"1:2:3:4:5:6::", of16(1, 2, 3, 4, 5, 6, 0, 0)},
		{"1:2:3:4:5::", of16(1, 2, 3, 4, 5, 0, 0, 0)},
		{"1::", of16(1, 0, 0, 0, 0, 0, 0, 0)},
		{"::3:0:0:6:7:8", of16(0, 0, 3, 0, 0, 6, 7, 8)},
		{"::3:0:0:6:0:0", of16(0, 0, 3, 0, 0, 6, 0, 0)},
		{"0:0:3::7:8", of16(0, 0, 3, 0, 0, 0, 7, 8)},
		{"0:0:3:4:5::", of16(0, 0, 3, 4, 5, 0, 0, 0)},
		{"::4:5:6:0:0", of16(0, 0, 0, 4, 5, 6, 0, 0)},
		{"::4:5:0:0:0", of16(0, 0, 0, 4, 5, 0, 0, 0)},
		{"0:2:0:4:0:6:0:8", of16(0, 2, 0, 4, 0, 6, 0, 8)},
		{"1:0:3:0:5:0:7:0", of16(1, 0, 3, 0, 5, 0, 7, 0)},
		{"0:2::5:6:7:0", of16(0, 2, 0, 0, 5, 6, 7, 0)},
		{"1000:100:10:1::", of16(0x1000, 0x100, 0x10, 1, 0, 0, 0, 0)},
		{"ffff:ffff:ffff:ffff:ffff:ffff:ffff:ffff", of16(-1, -1, -1, -1, -1, -1, -1, -1)},
	} {
		if got := mustPrint(t, c.a); got != c.want {
			t.Errorf("%q: %q, want %q", c.a, got, c.want)
		}
	}
}

// P4.1: the library is a witness, too, but where it tells 4 bytes within 16.
func TestPrintDrawnAddresses(t *testing.T) {
	draw := draws(1)
	for range 20000 {
		for _, length := range []int{4, 16} {
			a := drawnAddress(draw, length)
			got := mustPrint(t, a)
			other, _ := netip.AddrFromSlice([]byte(a))
			if !other.Is4In6() && other.String() != got {
				t.Errorf("%q: %q, the library tells %q", a, got, other)
			}
		}
	}
}

// P4.1: no two addresses have one text.
func TestPrintUnlike(t *testing.T) {
	draw := draws(2)
	seen := map[string]string{}
	for range 20000 {
		a := drawnAddress(draw, 4+12*int(draw()%2))
		s, _ := addr.Print(a)
		if other, ok := seen[s]; ok && other != a {
			t.Errorf("%q and %q: %q", a, other, s)
		}
		seen[s] = a
	}
}
