package addr_test

import (
	"slices"
	"strings"
	"testing"

	"palanquin/addr"
	"palanquin/api"
)

// P4.1: what is no address's text, spelt out.
func TestParseRefused(t *testing.T) {
	for _, s := range []string{
		// the chapter's
		"1::2:0:0:0:3",
		// nothing, and signs alone
		"", " ", ".", "..", "...", "....", ":", ":::", "::::", ":::::::", "::::::::", ".:", ":.", "::.", "-", "0", "a", "x",
		// too few and too many, missing and doubled dots
		"1.2", "1.2.3", "1.2.3.4.5", "1.2.3.4.", ".1.2.3.4", "1..2.3.4", "1..3.4", "1.2.3.", ".2.3.4", "1.2..4", "1.2.34", "1234", "1.2.3.4.5.6.7.8",
		// noughts ahead, and bytes that are too great
		"00.2.3.4", "01.2.3.4", "1.02.3.4", "1.2.003.4", "1.2.3.04", "0.0.0.00", "256.2.3.4", "1.2.3.256", "1.2.3.260", "1.2.3.999", "1.2.3.65536", "1.2.3.4294967297", "1.2.3.18446744073709551617",
		// no digits
		"a.2.3.4", "1.2.3.a", "1.2.3.0x4", "0x1.2.3.4", "+1.2.3.4", "1.-2.3.4", "-0.0.0.0", "1.2.3.4e0", "1.2.3.4_0", "1.2.3. 4", "1 .2.3.4", "1.2.3.x", "1,2,3,4", "\uff11.2.3.4", "\u0661.2.3.4",
		// more ahead and behind
		"1.2.3.4 ", " 1.2.3.4", "1.2.3.4\n", "1.2.3.4\x00", "\x001.2.3.4", "1.2.3.4/8", "1.2.3.4:80", "1.2.3.4,", "1.2.3.4::", "::1.2.3.4", "::ffff:1.2.3.4", "::1 ", " ::1", "::1\n", "::1\x00", "[::1]", "::1%0", "::1%eth0", "::1/128", "::1.", "::1]",
		// too few and too many, missing and doubled colons
		"1:2", "1:2:3:4", "1:2:3:4:5:6:7", "1:2:3:4:5:6:7:8:9", "1:2:3:4:5:6:7:8:", ":1:2:3:4:5:6:7:8", ":2:3:4:5:6:7:8", "1:2:3:4:5:6:7:", "1:2:3:4:5:6:78", "1::2::3", "::1::", "1:::2", ":::1", "1:::", ":1::", "::1:", ":1", "1:",
		// two colons for one number, or for none
		"1:2:3:4:5:6:7::", "::2:3:4:5:6:7:8", "1::3:4:5:6:7:8", "1:2:3::5:6:7:8", "1:2:3:4:5:6:7:8::", "::1:2:3:4:5:6:7:8", "1:2:3:4::5:6:7:8", "1:2:3:4:5:6:7:8::9", "1:2:3:4:5::6:7:8:9",
		// rows that are left in, or another than the first longest one left out
		"0:0:0:0:0:0:0:0", "0:0:0:0:0:0:0:1", "0::", "::0", "0::0", "0::1", "::0:1", "1::0", "1:0::", "1:0::2", "1::0:2", "1:0:0:4:5:6:7:8", "1:2:3:0:0:6:7:8", "1:2:3:4:5:6:0:0", "0:0:3::6:7:8", "0:0:3:4:5:6::", "1:0:0:0:2::3", "1:0:0:4::7:8", "::3:4:5:0:0:0", "::3:0:0:0:0:0",
		// noughts ahead, and numbers that are too great
		"01::", "::01", "::0001", "::00", "00::", "0001:2:3:4:5:6:7:8", "1:2:3:4:5:6:7:08", "1:2:3:4:5:6:7:00ff", "10000::", "::10000", "1:2:3:4:5:6:7:1ffff", "::fffff", "::100000001", "::10000000000000001",
		// great letters, and no digits
		"A::", "::F", "::fF", "ABCD::", "1:2:3:4:5:6:7:Ff", "g::", "::x", "::0x1", "::+1", "::-1", "::-0", "::1_0", ":: 1", "1 ::", "::\uff11", "::\u0661", "::\xff", "::\x80", "x",
		// of an address's own bytes
		"\x01\x02\x03\x04", strings.Repeat("\x00", 4), strings.Repeat("\x00", 16), strings.Repeat("1", 16), strings.Repeat("1", 32), "16909060",
	} {
		if got, e := addr.Parse(s); got != "" || e != api.ErrForm {
			t.Errorf("%q: %q %v", s, got, e)
		}
	}
}

// P4.1: every short text of a few letters is taken just if it is an address's.
func TestParseEveryShortText(t *testing.T) {
	for _, c := range []struct {
		letters string
		most    int
	}{
		{"0:", 16},
		{"01:", 10},
		{"0f:.", 8},
		{"0.", 8},
		{"02.", 10},
		{"05.", 9},
		{"0aA:", 7},
		{"01+-x. :", 5},
	} {
		taken := 0
		spelt(c.letters, c.most, func(s string) {
			if mustParse(t, s) {
				taken++
			}
		})
		if taken == 0 {
			t.Errorf("%q: none is a text", c.letters)
		}
	}
}

// P4.1: of every text of 4 least and greatest bytes, one above them too.
func TestParseEachByte(t *testing.T) {
	words := []string{"", "0", "00", "1", "01", "9", "10", "99", "100", "0100", "255", "256", "1000", "-1", "+1", "a"}
	for _, a := range words {
		for _, b := range words {
			for _, c := range words {
				for _, d := range words {
					mustParse(t, a+"."+b+"."+c+"."+d)
				}
			}
		}
	}
	for n := range 70000 {
		mustParse(t, "1.2."+strings.Repeat("0", n%2)+itoa(n)+".4")
	}
}

// P4.1: two colons ahead of, between and behind any count of numbers, some of them 0.
func TestParseEveryCut(t *testing.T) {
	taken := 0
	for mask := range 1 << 10 {
		words := make([]string, 10)
		for i := range words {
			words[i] = []string{"0", "a"}[mask>>i&1]
		}
		for count := range len(words) + 1 {
			if mask >= 1<<count {
				continue
			}
			mustParse(t, strings.Join(words[:count], ":"))
			for i := range count + 1 {
				if mustParse(t, strings.Join(words[:i], ":")+"::"+strings.Join(words[i:count], ":")) {
					taken++
				}
			}
		}
	}
	if taken < 100 {
		t.Errorf("%d are texts", taken)
	}
}

// P4.1: a right text with a byte of it gone, doubled, or another, and with one more.
func TestParseTextsThatWereRight(t *testing.T) {
	draw := draws(3)
	texts := []string{"0.0.0.0", "127.0.0.1", "255.255.255.255", "::", "::1", "1::", "1::2:0:0:3", "1:2:3:4:5:6:7:8", "::ffff:102:304", "abcd:ef01::"}
	for range 40 {
		texts = append(texts, slowText(drawnAddress(draw, 4)), slowText(drawnAddress(draw, 16)))
	}
	for _, s := range texts {
		if !mustParse(t, s) {
			t.Fatalf("%q is a text", s)
		}
		for i := range len(s) {
			mustParse(t, s[:i])
			mustParse(t, s[i:])
			mustParse(t, s[:i]+s[i+1:])
			mustParse(t, s[:i]+s[i:i+1]+s[i:])
			for n := range 256 {
				b := string([]byte{byte(n)})
				mustParse(t, s[:i]+b+s[i+1:])
				mustParse(t, s[:i]+b+s[i:])
				mustParse(t, s+b)
			}
		}
		for _, other := range texts {
			mustParse(t, s+other)
		}
	}
}

// P4.1: texts of every length, and very long ones, of which none is an address's.
func TestParseLongTexts(t *testing.T) {
	lengths := []int{1 << 16, 1 << 20}
	for n := range 60 {
		lengths = append(lengths, n)
	}
	for _, n := range lengths {
		for _, part := range []string{"0", "1", "f", ":", ".", "0.", "1.", "0:", "f:", ":0", "::1", "\x00", "0.0.0.0", "::"} {
			mustParse(t, strings.Repeat(part, n))
			mustParse(t, "::"+strings.Repeat(part, n))
			mustParse(t, "1.2.3."+strings.Repeat(part, n))
			mustParse(t, strings.Repeat(part, n)+"::1")
		}
	}
}

// P4.1: the longest texts that there are.
func TestParseLongestTexts(t *testing.T) {
	for _, s := range []string{"255.255.255.255", strings.TrimSuffix(strings.Repeat("ffff:", 8), ":"), strings.TrimSuffix(strings.Repeat("1000:", 8), ":")} {
		if !slices.Contains([]int{15, 39}, len(s)) || !mustParse(t, s) {
			t.Errorf("%q", s)
		}
	}
}

// Rule 4: no call hangs on one before it.
func TestParseTwice(t *testing.T) {
	for range 2 {
		for _, s := range []string{"1.2.3.4", "", "::1", "x", "::", "1.2.3", "0.0.0.0", "1::"} {
			mustParse(t, s)
		}
	}
}
