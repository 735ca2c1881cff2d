package clamp_test

import (
	"math"
	"math/rand"
	"strings"
	"testing"

	"palanquin/clamp"
	"palanquin/flow"
)

// Packets that are known byte by byte: what is ahead of the sum, of 36 and of 56 bytes.
const (
	bare4 = "\x45\x00\x00\x2c\x00\x00\x40\x00\x40\x06\x26\xca\x0a\x00\x00\x01\x0a\x00\x00\x02" +
		"\x9c\x40\x00\x50\x00\x00\x00\x01\x00\x00\x00\x00\x60\x02\xfa\xf0"
	bare6 = "\x60\x00\x00\x00\x00\x18\x06\x40\x20\x01\x0d\xb8\x00\x00\x00\x00\x00\x00\x00\x00\x00\x00\x00\x01" +
		"\x20\x01\x0d\xb8\x00\x00\x00\x00\x00\x00\x00\x00\x00\x00\x00\x02" +
		"\x9c\x40\x00\x50\x00\x00\x00\x01\x00\x00\x00\x00\x60\x02\xfa\xf0"
	more4 = "\x45\x00\x00\x30\x00\x00\x40\x00\x40\x06\x26\xc6\x0a\x00\x00\x01\x0a\x00\x00\x02" +
		"\x9c\x40\x00\x50\x00\x00\x00\x01\x00\x00\x00\x00\x70\x02\xfa\xf0"
	more6 = "\x60\x00\x00\x00\x00\x1c\x06\x40\x20\x01\x0d\xb8\x00\x00\x00\x00\x00\x00\x00\x00\x00\x00\x00\x01" +
		"\x20\x01\x0d\xb8\x00\x00\x00\x00\x00\x00\x00\x00\x00\x00\x00\x02" +
		"\x9c\x40\x00\x50\x00\x00\x00\x01\x00\x00\x00\x00\x70\x02\xfa\xf0"
)

// P10.1: the chapter's example, of both versions: at an even place, and at an odd one.
func TestClampExample(t *testing.T) {
	for _, x := range []struct{ name, p, want string }{
		{"IPv4, even", bare4 + "\xec\xa1\x00\x00\x02\x04\x05\xb4", bare4 + "\xec\xdd\x00\x00\x02\x04\x05\x78"},
		{"IPv6, even", bare6 + "\xa5\x2f\x00\x00\x02\x04\x05\xb4", bare6 + "\xa5\x6b\x00\x00\x02\x04\x05\x78"},
		{"IPv4, odd", more4 + "\x2a\x4c\x00\x00\x01\x02\x04\x05\xb4\x01\x01\x01", more4 + "\x66\x4c\x00\x00\x01\x02\x04\x05\x78\x01\x01\x01"},
		{"IPv6, odd", more6 + "\xe2\xd9\x00\x00\x01\x02\x04\x05\xb4\x01\x01\x01", more6 + "\x1e\xda\x00\x00\x01\x02\x04\x05\x78\x01\x01\x01"},
	} {
		if p := clamp.Clamp(x.p, 1400); p != x.want {
			t.Errorf("%s, 1400: %s; want %s", x.name, shown(p), shown(x.want))
		}
		if p := clamp.Clamp(x.p, 1500); p != x.p {
			t.Errorf("%s, 1500: %s", x.name, shown(p))
		}
		mustTell(t, x.name, x.p, 1460, true)
		mustTell(t, x.name, x.want, 1400, true)
	}
}

// P10.1: every limit, and every MSS, at an even place and at an odd one.
func TestClampEveryNumber(t *testing.T) {
	eachVersion(t, func(t *testing.T, v version) {
		for _, ahead := range []string{"", "\x01"} {
			p := v.of(segment{syn, padded(ahead + mss1460), "hello"})
			for n := range 65536 {
				q := mustClamp(t, p, n)
				if (q == p) != (n >= 1460) {
					t.Fatalf("limit %d: %s", n, shown(q))
				}
				b := v.of(segment{syn, padded(ahead + option(n)), "hello"})
				if q := mustClamp(t, b, 1400); (q == b) != (n <= 1400) {
					t.Fatalf("MSS %d: %s", n, shown(q))
				}
			}
		}
	})
}

// P10.1: an MSS one below the limit and at it stays; one above is held down.
func TestClampAtTheLimit(t *testing.T) {
	eachVersion(t, func(t *testing.T, v version) {
		for _, limit := range []int{0, 1, 255, 256, 257, 536, 1400, 32767, 32768, 65279, 65280, 65534, 65535} {
			for mss := max(limit-1, 0); mss <= min(limit+1, 65535); mss++ {
				p := v.of(segment{syn, option(mss), "hello"})
				want := v.of(segment{syn, option(min(mss, limit)), "hello"})
				if q := clamp.Clamp(p, limit); q != want {
					t.Errorf("MSS %d, limit %d: %s; want %s", mss, limit, shown(q), shown(want))
				}
			}
		}
	})
}

// P10.1: limits that are no number of two bytes count as the nearer of 0 and 65535.
func TestClampByOtherLimits(t *testing.T) {
	eachVersion(t, func(t *testing.T, v version) {
		for _, mss := range []int{0, 1, 1400, 1460, 65534, 65535} {
			p := v.of(segment{syn, option(mss), "hello"})
			none := v.of(segment{syn, option(0), "hello"})
			for _, limit := range []int{-1, -2, -1400, -65535, -65536, -1 << 32, 1400 - 1<<40, math.MinInt + 1400, math.MinInt} {
				if q := clamp.Clamp(p, limit); q != none {
					t.Errorf("MSS %d, limit %d: %s; want %s", mss, limit, shown(q), shown(none))
				}
			}
			for _, limit := range []int{65535, 65536, 65537, 65536 + 1400, 1 << 17, 1 << 32, 1<<40 + 1, math.MaxInt - 1, math.MaxInt} {
				if q := clamp.Clamp(p, limit); q != p {
					t.Errorf("MSS %d, limit %d: %s", mss, limit, shown(q))
				}
			}
		}
	})
}

// P10.1: every number of flags: those with SYN are clamped, whatever is beside it.
func TestClampEveryFlags(t *testing.T) {
	eachVersion(t, func(t *testing.T, v version) {
		for flags := range 256 {
			p := v.of(segment{flags, mss1460, "hello"})
			if flags/2%2 == 0 {
				mustStay(t, "without SYN", p)
				continue
			}
			if q := clamp.Clamp(p, 1400); q != v.of(segment{flags, option(1400), "hello"}) {
				t.Errorf("flags %d: %s", flags, shown(q))
			}
			mustTell(t, "with SYN", p, 1460, true)
		}
	})
}

// P10.1: every protocol: a datagram stays, and so does what is neither, even where it looks like a SYN.
func TestClampOtherProtocols(t *testing.T) {
	eachVersion(t, func(t *testing.T, v version) {
		for proto := range 256 {
			if proto != 6 {
				mustStay(t, "another protocol", v.put(proto, v.sealed(bytesOf(plain))))
			}
		}
		b := withTwo(bytesOf(plain), 4, len(bytesOf(plain)))
		p := v.put(17, flow.Seal(17, v.src, v.dst, b))
		if f, e := flow.Get(p); f.Proto != 17 || e != 0 {
			t.Fatalf("no datagram: %#v, %v", f, e)
		}
		mustStay(t, "a datagram", p)
	})
}

// P10.1: the empty text, all beginnings of a packet, one with a byte more, and one with a byte fewer ahead.
func TestClampOtherLengths(t *testing.T) {
	eachVersion(t, func(t *testing.T, v version) {
		p := v.of(plain)
		for n := range p {
			mustStay(t, "a beginning", p[:n])
		}
		for b := range 256 {
			mustStay(t, "a byte more", p+string([]byte{byte(b)}))
		}
		mustStay(t, "a byte fewer", p[1:])
		mustStay(t, "twice", p+p)
	})
}

// P10.1: whatever single byte is another, and so is no longer what the sum is of.
func TestClampEveryByteTurned(t *testing.T) {
	eachVersion(t, func(t *testing.T, v version) {
		p := v.of(plain)
		taken := 0
		for at := range p {
			for b := range 256 {
				q := withByte(p, at, byte(b))
				if mustClamp(t, q, 1400) != q {
					taken++
				} else if q != p {
					mustStay(t, "turned", q)
				}
			}
		}
		// In IPv6 the class, the label and the hops are in no sum: four bits of the first byte, two bytes and four bits, and one byte.
		want := len(p)
		if v.name == "IPv6" {
			want = len(p) + 15 + 3*255 + 255
		}
		if taken != want {
			t.Errorf("%d were clamped, want %d", taken, want)
		}
	})
}

// P10.1: a packet with one fault, where all sums are right.
func TestClampFaults(t *testing.T) {
	eachVersion(t, func(t *testing.T, v version) {
		b := bytesOf(plain)
		for _, x := range []struct {
			why string
			b   string
		}{
			{"too few words", withByte(b, 12, 0x40)},
			{"more words than there are", withByte(b, 12, 0xf0)},
			{"bits beside the words", withByte(b, 12, 0x61)},
			{"options that go behind the end", bytesOf(segment{syn, mss1460 + "\x03\x05\x01\x01", "hello"})},
			{"an option of one byte", bytesOf(segment{syn, mss1460 + "\x03\x01\x01\x01", "hello"})},
			{"an MSS that goes behind the end", bytesOf(segment{syn, mss1460 + "\x01\x02\x04\x05", "hello"})},
		} {
			mustStay(t, x.why, v.put(6, v.sealed(x.b)))
		}
		sealed := v.sealed(b)
		for n := range 65536 {
			p := v.put(6, withTwo(sealed, 16, n))
			if q := clamp.Clamp(p, 1400); (q == p) != (n != numberAt(sealed, 16)) {
				t.Fatalf("sum %#x: %s", n, shown(q))
			}
		}
	})
}

// P10.1: pieces stay, the first one too; a packet that must not be cut is none.
func TestClampPieces(t *testing.T) {
	v := versions()[0]
	b := v.sealed(bytesOf(plain))
	for offset := range 8192 {
		for _, bits := range []int{0, 8192, 16384, 8192 + 16384} {
			p := slowPut4(6, bits+offset, "", b)
			if bits+offset == 0 || bits+offset == 16384 {
				if mustClamp(t, p, 1400) == p {
					t.Errorf("no piece: %s stays", shown(p))
				}
			} else if q := clamp.Clamp(p, 1); q != p {
				t.Fatalf("a piece: Clamp(%s, 1): %s", shown(p), shown(q))
			}
		}
	}
	for _, bits := range []int{1, 8191, 8192, 8193, 8192 + 16384, 32768} {
		mustStay(t, "a piece, or strange flags", slowPut4(6, bits, "", b))
	}
}

// P10.1: what an IPv4 packet says of its header must be right; a sum of FFFF is, where 0 is, and stays.
func TestClampHeaders4(t *testing.T) {
	v := versions()[0]
	p := v.of(plain)
	for n := range 65536 {
		if q := clamp.Clamp(withTwo(p, 10, n), 1400); (q == withTwo(p, 10, n)) != (n != numberAt(p, 10)) {
			t.Fatalf("the header's sum %#x: %s", n, shown(q))
		}
		if q := clamp.Clamp(mended4(withTwo(p, 2, n)), 1400); (q == mended4(withTwo(p, 2, n))) != (n != len(p)) {
			t.Fatalf("length %d: %s", n, shown(q))
		}
	}
	for words := range 5 {
		mustStay(t, "a short header", mended4(withByte(p, 0, byte(64+words))))
	}
	for _, first := range []byte{0x05, 0x35, 0x55, 0x65, 0xf5} {
		mustStay(t, "another version", mended4(withByte(p, 0, first)))
	}
	p = mended4(withTwo(p, 4, 0x2836+numberAt(p, 10)))
	if numberAt(p, 10) != 0 {
		t.Fatalf("the header's sum isn't 0: %s", shown(p))
	}
	for _, n := range []int{0, 65535} {
		if q := mustClamp(t, withTwo(p, 10, n), 1400); numberAt(q, 10) != n || numberAt(q, 42) != 1400 {
			t.Errorf("the header's sum %#x: %s", n, shown(q))
		}
	}
}

// P10.1: headers of IPv4 of every length: the segment is behind what they say.
func TestClampEveryHeader4(t *testing.T) {
	v := versions()[0]
	for n := 0; n <= 40; n += 4 {
		for _, fill := range []string{"\x00", "\x01", "\x02", "\xff"} {
			options := strings.Repeat(fill, n)
			p := slowPut4(6, 0, options, v.sealed(bytesOf(plain)))
			want := slowPut4(6, 0, options, v.sealed(bytesOf(segment{syn, option(1400), "hello"})))
			if q := clamp.Clamp(p, 1400); q != want {
				t.Errorf("options %s: %s; want %s", shown(options), shown(q), shown(want))
			}
		}
	}
}

// P10.1: payloads of every length up to some, and of as many bytes as fit.
func TestClampEveryLength(t *testing.T) {
	eachVersion(t, func(t *testing.T, v version) {
		lengths := []int{1000, 65535 - 40 - 24 - 1, 65535 - 40 - 24}
		if v.head == 20 {
			lengths = append(lengths, 65535-20-24)
		}
		if v.head == 40 {
			lengths = append(lengths, 65535-24)
		}
		for n := range 100 {
			lengths = append(lengths, n)
		}
		for _, n := range lengths {
			for _, fill := range []string{"\x00", "\x02", "\xff"} {
				payload := strings.Repeat(fill, n)
				p := v.of(segment{syn, mss1460, payload})
				if q := clamp.Clamp(p, 1400); q != v.of(segment{syn, option(1400), payload}) {
					t.Errorf("%d bytes: %s", n, shown(q))
				}
			}
		}
	})
}

// P10.1: whatever was drawn as options, as a header, and as a limit.
func TestClampDrawn(t *testing.T) {
	draw := rand.New(rand.NewSource(101))
	bits := []string{
		"\x00", "\x01", "\x01", mss1460, "\x02\x04\xff\xff", "\x02\x04\x00\x01", "\x02\x03\x05", "\x03\x03\x07", "\x04\x02",
		"\x08\x06\x02\x04\x05\xb4",
	}
	held := 0
	for _, v := range versions() {
		for range 20000 {
			options := ""
			for range draw.Intn(6) {
				options += bits[draw.Intn(len(bits))]
			}
			s := segment{draw.Intn(256), padded(options), drawnText(draw, draw.Intn(20))}
			p := v.of(s)
			if limit := draw.Intn(70000) - 2000; mustClamp(t, p, limit) != p {
				held++
			}
			if q := mustClamp(t, p, draw.Intn(1600)); q != p {
				held++
			}
			mustClamp(t, drawnText(draw, draw.Intn(90)), 1)
		}
	}
	if held < 10000 {
		t.Errorf("only %d were clamped", held)
	}
}

// P10.1: the same call answers the same, whatever was called between.
func TestClampTwice(t *testing.T) {
	eachVersion(t, func(t *testing.T, v version) {
		p := v.of(plain)
		q := mustClamp(t, p, 1400)
		mustClamp(t, q, 7)
		clamp.Clamp("other", 1)
		clamp.Limit(1, 2, true)
		mustTell(t, "between", q, 1400, true)
		if mustClamp(t, p, 1400) != q {
			t.Error("another packet")
		}
	})
}
