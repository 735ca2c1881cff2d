package vone_test

import (
	"fmt"
	"math/rand"
	"slices"
	"strings"
	"testing"

	"palanquin/api"
)

// talks are lines' words behind PROXY, of those that have six.
func talks() [][]string {
	var list [][]string
	for _, line := range lines() {
		if words := strings.Split(line[:len(line)-2], " "); len(words) == 6 {
			list = append(list, words[1:])
		}
	}
	return list
}

func joined(words ...string) string { return "PROXY " + strings.Join(words, " ") + "\r\n" }

// withWord are words with another at a place.
func withWord(words []string, at int, word string) []string {
	words = slices.Clone(words)
	words[at] = word
	return words
}

// mustBeNone says that a text, which has no byte 10 but at its end, is no line. One that is too long is told so.
func mustBeNone(t *testing.T, why, b string) {
	t.Helper()
	if len(b) > api.MaxLine {
		mustRefuse(t, why, b, api.ErrLength)
	} else {
		mustRefuse(t, why, b, api.ErrForm)
	}
}

// P17.2: a word less, a word more, and words in another order.
func TestGetCountOfWords(t *testing.T) {
	for _, words := range talks() {
		if e := mustGet(t, joined(words...)); e != api.OK {
			t.Errorf("%q: %v", words, e)
		}
		for at := range words {
			mustBeNone(t, "a word less", joined(slices.Delete(slices.Clone(words), at, at+1)...))
			mustBeNone(t, "nothing behind", joined(words[:at]...))
			mustBeNone(t, "nothing ahead", joined(words[at+1:]...))
			for _, more := range append([]string{"x", "0", "PROXY"}, words...) {
				mustBeNone(t, "a word more", joined(slices.Insert(slices.Clone(words), at, more)...))
			}
		}
		for _, more := range []string{"x", "0", "65535", words[1], words[4], "UNKNOWN"} {
			mustBeNone(t, "a word more", joined(append(slices.Clone(words), more)...))
			mustBeNone(t, "two words more", joined(append(slices.Clone(words), more, more)...))
		}
		for _, order := range [][]int{{1, 0, 2, 3, 4}, {0, 3, 2, 1, 4}, {0, 1, 3, 2, 4}, {0, 1, 3, 4, 2}, {0, 3, 4, 1, 2}, {1, 2, 3, 4, 0}} {
			var other []string
			for _, at := range order {
				other = append(other, words[at])
			}
			mustBeNone(t, "another order", joined(other...))
		}
	}
	for _, words := range []string{"", " ", "  ", "UNKNOW", "TCP4", "TCP6", "TCP4 ", "TCP6 ", "TCP4 1.2.3.4", "TCP4    ", "TCP6    ", "TCP4     "} {
		mustBeNone(t, "few words", joined(words))
	}
}

// P17.2: an empty word: two blanks on end, a blank ahead of the end, or of the second word.
func TestGetEmptyWords(t *testing.T) {
	for _, words := range talks() {
		for at := range len(words) + 1 {
			for _, blanks := range []int{1, 2, 5} {
				more := slices.Insert(slices.Clone(words), at, make([]string, blanks)...)
				mustBeNone(t, "blanks on end", joined(more...))
			}
			if at < len(words) {
				mustBeNone(t, "an empty word", joined(withWord(words, at, "")...))
			}
		}
	}
	for _, blanks := range []string{" ", "  "} {
		mustBeNone(t, "ahead of UNKNOWN", "PROXY "+blanks+"UNKNOWN\r\n")
		mustBeNone(t, "ahead of TCP4", "PROXY "+blanks+example[6:])
	}
}

// P17.2: words are parted by blanks alone.
func TestGetOtherBlanks(t *testing.T) {
	for _, words := range talks() {
		for n := range 256 {
			if n == ' ' || n == '\n' {
				continue
			}
			for at := 1; at < len(words); at++ {
				glued := strings.Join(words[:at], " ") + string([]byte{byte(n)}) + strings.Join(words[at:], " ")
				mustBeNone(t, "no blank", joined(glued))
			}
			mustBeNone(t, "no blanks", joined(strings.Join(words, string([]byte{byte(n)}))))
		}
	}
}

// P17.2: another second word, whatever stands behind.
func TestGetSecondWords(t *testing.T) {
	for _, second := range []string{
		"", "UDP4", "UDP6", "TCP", "TCP5", "TCP04", "TCP44", "TCP66", "TCP64", "TCP4x", "TCP4\t", "\tTCP4", "TCP4\x00", "TCP4.", "xTCP4", "CP4", "4", "6", "1", "2", "0",
		"tcp4", "tcp6", "Tcp4", "TCp4", "tCP6", "unknown", "Unknown", "UNKNOWn", "uNKNOWN", "UNKNOW", "NKNOWN", "UNKNOWNS", "UNKNOWN\t", "UNKNOWN\r", "UNKNOWN\x00", "UNKNOWN,", "XUNKNOWN", "UNKNOWNUNKNOWN", "UNSPEC", "LOCAL", "UNIX", "SCTP4", "PROXY", "*", "-", "T\xd0\xa1P4", "TCP\xbc\xb4", "TCP\xef\xbc\x94",
	} {
		mustBeNone(t, "alone", joined(second))
		mustBeNone(t, "with a blank", joined(second, ""))
		for _, words := range talks() {
			mustBeNone(t, "with words", joined(withWord(words, 0, second)...))
		}
	}
	for _, words := range talks() {
		other := map[string]string{"TCP4": "TCP6", "TCP6": "TCP4"}[words[0]]
		mustBeNone(t, "the other Family's", joined(withWord(words, 0, other)...))
	}
}

// otherSpellings are no texts of addresses, though most of them are read by others.
func otherSpellings() []string {
	return []string{
		"", "1.2.3", "1.2.3.4.5", "1.2.3.4.", ".1.2.3.4", "1..2.3.4", "1..3.4", "01.2.3.4", "1.02.3.4", "1.2.003.4", "1.2.3.04", "00.0.0.0", "0.0.0.00", "256.2.3.4", "1.2.3.256", "1.2.3.1000", "1.2.3.4294967300",
		"+1.2.3.4", "1.2.3.-4", "-0.0.0.0", "0x1.2.3.4", "1.2.3.0x4", "a.b.c.d", "1.2.3.x", "1,2,3,4", "1:2:3:4", "1.2.3.4/8", "1.2.3.4:80", "1.2.3.4\t", "\t1.2.3.4", "1.2.3.4\x00", "\x001.2.3.4", "16909060", "1.2.772", "0", "1.2.3.4\r", "localhost", "\uff11.2.3.4", "1\xff.2.3.4",
		"::ffff:1.2.3.4", "::1.2.3.4", "1:2:3:4:5:6:7", "1:2:3:4:5:6:7:8:9", "1:2:3:4:5:6:7:", ":2:3:4:5:6:7:8", ":", ":::", "::::", "::1::", "1::2::3", "0::", "::0", "0::1", "::0:1", "0:0:0:0:0:0:0:0", "0:0:0:0:0:0:0:1", "1::2:0:0:0:3", "1:0:0:0:2::3", "1:0:0:2::3:4:5", "1:2:3:0:0:6:7:8", "::2:3:4:5:6:7:8", "1:2:3:4:5:6:7::", "1:2:3::5:6:7:8", "01::", "::01", "::0001", "2001:0db8::1", "::A", "::F", "2001:DB8::1", "::fFff", "10000::", "::fffff", "g::", "::x", "::+1", "::-1", "::0x1", "[::1]", "::1%0", "::1%eth0", "::1/128", "::1\t", "\t::1", "::1\x00", "::1\r", "::\xff",
		plain4[1:] + "\x05", strings.Repeat("1", 16), strings.Repeat("1", 32),
	}
}

// P17.2: addresses in another spelling than layer 4's, and those of the other Family, at both places, alone and together.
func TestGetAddressWords(t *testing.T) {
	for _, words := range talks() {
		for _, word := range otherSpellings() {
			mustBeNone(t, "Src", joined(withWord(words, 1, word)...))
			mustBeNone(t, "Dst", joined(withWord(words, 2, word)...))
			mustBeNone(t, "both", joined(withWord(withWord(words, 1, word), 2, word)...))
		}
		other := []string{"::", "::1", "2001:db8::1", "1:2:3:4:5:6:7:8", "::ffff:102:304", "::102:304"}
		if words[0] == "TCP6" {
			other = []string{"0.0.0.0", "1.2.3.4", "255.255.255.255"}
		}
		for _, word := range other {
			mustBeNone(t, "Src of the other", joined(withWord(words, 1, word)...))
			mustBeNone(t, "Dst of the other", joined(withWord(words, 2, word)...))
			mustBeNone(t, "both of the other", joined(withWord(withWord(words, 1, word), 2, word)...))
		}
	}
}

// P17.2: ports with noughts ahead, with a sign, empty, above 65535, and in no digits, at both places, alone and together.
func TestGetPortWords(t *testing.T) {
	for _, words := range talks() {
		for _, word := range []string{
			"", "00", "01", "09", "010", "0000", "00080", "065535", "000000", "-0", "-1", "+0", "+1", "+80", "-65535", "65536", "65537", "65545", "70000", "99999", "100000", "655350", "131071", "4294967296", "4294967305", "18446744073709551616", "18446744073709551625", "-18446744073709551607",
			"x", "9x", "x9", "0x9", "0b1", "1_0", "1e1", "1.0", "1.", ".1", "9,", "9\t", "\t9", "9\x00", "\x009", "9\r", "ff", "a", "\uff19", "\u0669", "9\xff", "1.2.3.4", "::", "http", "*",
		} {
			mustBeNone(t, "SrcPort", joined(withWord(words, 3, word)...))
			mustBeNone(t, "DstPort", joined(withWord(words, 4, word)...))
			mustBeNone(t, "both", joined(withWord(withWord(words, 3, word), 4, word)...))
		}
	}
	list := talks()
	for n := range 70000 {
		want := api.OK
		if n > 65535 {
			want = api.ErrForm
		}
		words := list[n%len(list)]
		for at := 3; at < 5; at++ {
			if e := mustGet(t, joined(withWord(words, at, fmt.Sprint(n))...)); e != want {
				t.Errorf("port %d: %v", n, e)
			}
		}
		mustBeNone(t, "a nought ahead", joined(withWord(words, 3+n%2, "0"+fmt.Sprint(n))...))
	}
}

// P17.2: every short text of a few letters behind PROXY and the second word, and as one, is taken just if it makes a line.
func TestGetEveryShortText(t *testing.T) {
	for _, x := range []struct {
		ahead, letters, behind string
		most, least            int
	}{
		{"", "PR ", "", 6, 0},
		{"PROXY ", "\r\n U", "", 6, 0},
		{"PROXY UNKNOWN", "\r\n x", "", 7, 1000},
		{"PROXY UNKNOWN", "\r x", "\n", 8, 100},
		{"PROXY TCP6 ", ":01 ", "\r\n", 9, 4},
		{"PROXY TCP6 ", ":1 \r", "\r\n", 8, 0},
		{"PROXY TCP6 :: ", ":0a ", " 0 0\r\n", 6, 20},
		{"PROXY TCP4 1.2.3.4 1.2.3.", "01 .", "\r\n", 7, 20},
		{"PROXY TCP4 1.2.3.4 5.6.7.8", "05 ", "\r\n", 9, 100},
	} {
		taken := 0
		spelt(x.letters, x.most, func(s string) {
			if mustGet(t, x.ahead+s+x.behind) == api.OK {
				taken++
			}
		})
		if taken < x.least || x.least == 0 && taken != 0 {
			t.Errorf("%q: %d are lines", x.ahead, taken)
		}
	}
}

// P17.2: a line with a byte of it gone, doubled, or another, and with one more.
func TestGetLinesThatWereRight(t *testing.T) {
	draw := rand.New(rand.NewSource(174))
	list := append(lines(), "PROXY UNKNOWN a  b\r\r\n")
	for range 12 {
		list = append(list, slowLine(drawnHeader(draw)))
	}
	for _, line := range list {
		if e := mustGet(t, line); e != api.OK {
			t.Fatalf("%q: %v", line, e)
		}
		for at := range len(line) {
			mustGet(t, line[at:])
			mustGet(t, line[:at]+line[at+1:])
			mustGet(t, line[:at]+line[at:at+1]+line[at:])
			for n := range 256 {
				mustGet(t, withByte(line, at, byte(n)))
				mustGet(t, line[:at]+string([]byte{byte(n)})+line[at:])
			}
		}
	}
}

// P17.2: drawn texts, most of them wrong in one way or another, held against the slow questions.
func TestGetDrawn(t *testing.T) {
	draw := rand.New(rand.NewSource(175))
	seen := map[api.Errno]int{}
	letters := "PROXY UNKNOWNTCP46.::0159afF \r\n\x00\xff"
	for range 200000 {
		b := slowLine(drawnHeader(draw))
		for range draw.Intn(4) {
			at := draw.Intn(len(b))
			if draw.Intn(4) > 0 {
				at = min(len(b)-1, 6+at)
			}
			c := letters[draw.Intn(len(letters))]
			switch draw.Intn(4) {
			case 0:
				b = withByte(b, at, c)
			case 1:
				b = b[:at] + string([]byte{c}) + b[at:]
			case 2:
				b = b[:at] + b[at+1:]
			case 3:
				b = b[:at] + strings.Repeat(string([]byte{c}), draw.Intn(120)) + b[at:]
			}
			if b == "" {
				break
			}
		}
		if draw.Intn(3) == 0 {
			b += drawnText(draw, draw.Intn(120))
		}
		seen[mustGet(t, b)]++
	}
	for _, e := range []api.Errno{api.OK, api.ErrSign, api.ErrLength, api.ErrMore, api.ErrForm} {
		if seen[e] < 1000 {
			t.Errorf("error %v was met %d times", e, seen[e])
		}
	}
	if len(seen) != 5 {
		t.Errorf("errors: %v", seen)
	}
}
