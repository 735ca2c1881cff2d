package clamp_test

import (
	"strings"
	"testing"

	"palanquin/clamp"
)

// P10.1: every MSS, 0 among them, is told; beside a false there is 0.
func TestMSSEveryNumber(t *testing.T) {
	eachVersion(t, func(t *testing.T, v version) {
		for n := range 65536 {
			if got, ok := clamp.MSS(v.of(segment{syn, option(n), ""})); got != n || !ok {
				t.Fatalf("MSS %d: %d, %v", n, got, ok)
			}
			if got, ok := clamp.MSS(v.of(segment{16, option(n), ""})); got != 0 || ok {
				t.Fatalf("MSS %d, without SYN: %d, %v", n, got, ok)
			}
		}
	})
}

// P10.1: options that tell none.
func TestMSSNone(t *testing.T) {
	eachVersion(t, func(t *testing.T, v version) {
		for _, options := range []string{
			"", "\x00\x00\x00\x00", "\x01\x01\x01\x01", strings.Repeat("\x01", 40), "\x03\x03\x07\x01", "\x04\x02\x01\x01",
			"\x08\x0a\x02\x04\x05\xb4\x02\x04\x05\xb4\x01\x01", "\x02\x02\x01\x01", "\x02\x03\x05\x01", "\x02\x05\x05\xb4\x01\x01\x01\x01",
			"\x02\x06\x02\x04\x05\xb4\x01\x01", "\x03\x04\x05\xb4", "\x05\x04\x05\xb4",
		} {
			mustStay(t, "no MSS", v.of(segment{syn, options, "hello"}))
		}
		mustStay(t, "an MSS as the payload", v.of(segment{syn, "", mss1460}))
	})
}

// P10.1: a byte 0 ends the options: what stands behind it is none, and need not be right.
func TestMSSBehindTheEnd(t *testing.T) {
	eachVersion(t, func(t *testing.T, v version) {
		for _, options := range []string{
			"\x00\x00\x00\x00" + mss1460, "\x01\x00\x02\x04\x05\xb4\x00\x00", "\x03\x03\x07\x00" + mss1460, "\x00\x09\x00\x01" + mss1460,
		} {
			mustStay(t, "behind the end", v.of(segment{syn, options, "hello"}))
		}
		for _, behind := range []string{"\x00\x00\x00\x00", "\x00\x09\x00\x01", "\x00\xff\x02\x04" + mss1460, "\x01\x00\x02\x00"} {
			p := v.of(segment{syn, mss1460 + behind, "hello"})
			mustTell(t, "ahead of the end", p, 1460, true)
			if q := clamp.Clamp(p, 1400); q != v.of(segment{syn, option(1400) + behind, "hello"}) {
				t.Errorf("ahead of the end: %s", shown(q))
			}
		}
	})
}

// P10.1: at every place, even and odd, behind blanks and ahead of them.
func TestMSSEveryPlace(t *testing.T) {
	eachVersion(t, func(t *testing.T, v version) {
		for ahead := range 37 {
			for length := (ahead + 4 + 3) / 4 * 4; length <= 40; length += 4 {
				put := func(n int) string {
					return strings.Repeat("\x01", ahead) + option(n) + strings.Repeat("\x01", length-ahead-4)
				}
				p := v.of(segment{syn, put(1460), "hello"})
				mustTell(t, "among blanks", p, 1460, true)
				for _, limit := range []int{0, 1, 180, 1400, 1459} {
					if q := clamp.Clamp(p, limit); q != v.of(segment{syn, put(limit), "hello"}) {
						t.Errorf("%d ahead, limit %d: %s", ahead, limit, shown(q))
					}
				}
			}
		}
	})
}

// P10.1: ahead of other options, and behind them, which stay as they are.
func TestMSSAmongOthers(t *testing.T) {
	others := []string{
		"", "\x03\x03\x07", "\x04\x02", "\x08\x0a\x11\x22\x33\x44\x55\x66\x77\x88", "\x02\x03\x05", "\x02\x02", "\x02\x05\xff\xff\xff",
		"\x1e\x06\x02\x04\xff\xff", "\xfe\x04\xff\xff",
	}
	eachVersion(t, func(t *testing.T, v version) {
		for _, ahead := range others {
			for _, behind := range others {
				put := func(n int) segment { return segment{syn, padded(ahead + option(n) + behind), "hello!"} }
				p := v.of(put(1460))
				mustTell(t, "among others", p, 1460, true)
				if q := clamp.Clamp(p, 1400); q != v.of(put(1400)) {
					t.Errorf("%s, %s: %s", shown(ahead), shown(behind), shown(q))
				}
			}
		}
	})
}

// P10.1: of two the first one counts, and the other stays, whichever is above the limit.
func TestMSSTwice(t *testing.T) {
	eachVersion(t, func(t *testing.T, v version) {
		for _, between := range []string{"", "\x01", "\x03\x03\x07", "\x04\x02"} {
			for _, first := range []int{0, 1399, 1400, 1401, 65535} {
				for _, second := range []int{0, 1399, 1400, 1401, 65535} {
					put := func(n int) segment { return segment{syn, padded(option(n) + between + option(second)), "hello"} }
					p := v.of(put(first))
					mustTell(t, "the first of two", p, first, true)
					if q := clamp.Clamp(p, 1400); q != v.of(put(min(first, 1400))) {
						t.Errorf("%d, %d: %s", first, second, shown(q))
					}
				}
			}
		}
	})
}
