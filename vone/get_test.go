package vone_test

import (
	"math/rand"
	"strings"
	"testing"

	"palanquin/api"
)

// P17.2: known lines, the chapter's example among them, with and without bytes behind.
func TestGetKnownLines(t *testing.T) {
	for _, x := range []struct {
		b    string
		want api.Stream
		size int
	}{
		{example, api.Stream{Family: api.TCP4, Src: plain4, Dst: other4, SrcPort: 9, DstPort: 10}, 33},
		{"PROXY UNKNOWN\r\n", api.Stream{}, 15},
		{"PROXY UNKNOWN \r\n", api.Stream{}, 16},
		{"PROXY UNKNOWN ffff::1 ::2 1 2\r\n", api.Stream{}, 31},
		{"PROXY TCP4 0.0.0.0 0.0.0.0 0 0\r\n", api.Stream{Family: api.TCP4, Src: least4, Dst: least4}, 32},
		{"PROXY TCP4 255.255.255.255 255.255.255.255 65535 65535\r\n", api.Stream{Family: api.TCP4, Src: greatest4, Dst: greatest4, SrcPort: 65535, DstPort: 65535}, 56},
		{"PROXY TCP6 :: :: 0 0\r\n", api.Stream{Family: api.TCP6, Src: least6, Dst: least6}, 22},
		{"PROXY TCP6 ffff:ffff:ffff:ffff:ffff:ffff:ffff:ffff ffff:ffff:ffff:ffff:ffff:ffff:ffff:ffff 65535 65535\r\n", api.Stream{Family: api.TCP6, Src: greatest6, Dst: greatest6, SrcPort: 65535, DstPort: 65535}, 104},
		{"PROXY TCP6 2001:db8::1 1::2:0:0:3 40000 443\r\n", api.Stream{Family: api.TCP6, Src: plain6, Dst: other6, SrcPort: 40000, DstPort: 443}, 45},
		{"PROXY TCP6 ::ffff:102:304 :: 0 65535\r\n", api.Stream{Family: api.TCP6, Src: least6[:10] + "\xff\xff" + plain4, Dst: least6, DstPort: 65535}, 38},
	} {
		for _, behind := range []string{"", "GET /", "\n", "\r\n", x.b} {
			mustBe(t, "known", x.b+behind, x.want, x.size)
		}
	}
}

// P17.2: every byte but its own at each of the sign's six places, whatever stands behind.
func TestGetSign(t *testing.T) {
	const sign = "PROXY "
	behinds := []string{"", "U", "UNKNOWN\r\n", "\n", "\r\n", strings.Repeat("x", 100), strings.Repeat("x", 101), strings.Repeat("x", 102), strings.Repeat("x", 99) + "\n", strings.Repeat("x", 1000) + "\n"}
	for at := range sign {
		mustRefuse(t, "as far as it goes", sign[:at], api.ErrMore)
		for n := range 256 {
			if sign[at] == byte(n) {
				continue
			}
			mustRefuse(t, "its end", sign[:at]+string([]byte{byte(n)}), api.ErrSign)
			for _, behind := range behinds {
				mustRefuse(t, "other", withByte(sign, at, byte(n))+behind, api.ErrSign)
				mustRefuse(t, "more", sign[:at]+string([]byte{byte(n)})+sign[at:]+behind, api.ErrSign)
			}
		}
		for _, behind := range behinds[3:] {
			mustRefuse(t, "less", sign[:at]+behind, api.ErrSign)
		}
	}
	mustRefuse(t, "whole", sign, api.ErrMore)
}

// P17.2: texts that look like a sign, short and long.
func TestGetOtherSigns(t *testing.T) {
	for _, b := range []string{
		"G", "\x00", "\r", "\n", " ", "p", "proxy", "Proxy ", "PROXy ", "PROXYx", "PROXY\t", "PROXY\n", "PROXY\r\n", "PROXY\r", "PROXY\x00", "PRO XY ", " PROXY ", "PROXYPROXY ", "PPROXY ", "ROXY ", "PROX ",
		"\r\n\r\n\x00\r\nQUIT\n", "GET / HTTP/1.1\r\n", "\xff\xfe", "\x16\x03\x01", "PROXYUNKNOWN\r\n", "PROXY\tUNKNOWN\r\n", "PROXY\xa0UNKNOWN\r\n", "proxy UNKNOWN\r\n", "UNKNOWN\r\n", "TCP4 1.2.3.4 5.6.7.8 9 10\r\n",
	} {
		for _, behind := range []string{"", "x", "\n", "\r\n", example, strings.Repeat("x", 107), strings.Repeat("\n", 107)} {
			mustRefuse(t, "sign", b+behind, api.ErrSign)
		}
	}
}

// P17.2: texts without a byte 10, of each number of bytes: from 107 on too long, below more is asked for.
func TestGetWithoutEnd(t *testing.T) {
	lengths := []int{1000, 65535, 65536 + 7, 1 << 20}
	for n := 6; n < 300; n++ {
		lengths = append(lengths, n)
	}
	for _, n := range lengths {
		want := api.ErrMore
		if n >= 107 {
			want = api.ErrLength
		}
		for _, with := range []string{"x", " ", "\r", "\x00", "\xff", "UNKNOWN ", "UNKNOWN\r", "TCP4 1.2.3.4 5.6.7.8 9 10\r", "\xe2\x90\x8a", "\x8a", "\x0b"} {
			b := ("PROXY " + strings.Repeat(with, n))[:n]
			mustRefuse(t, "without byte 10", b, want)
		}
	}
	for _, x := range []struct {
		n int
		e api.Errno
	}{{105, api.ErrMore}, {106, api.ErrMore}, {107, api.ErrLength}, {108, api.ErrLength}} {
		mustRefuse(t, "at the edge", "PROXY UNKNOWN"+strings.Repeat(" ", x.n-13), x.e)
	}
}

// P17.2: a byte 10 at each place: up to 106 it ends what may be a line, behind that it comes too late.
func TestGetEndAtEachPlace(t *testing.T) {
	for at := 6; at < 300; at++ {
		late, want := api.ErrForm, api.OK
		if at > 106 {
			late, want = api.ErrLength, api.ErrLength
		}
		for _, behind := range []string{"", "x", "\n", "\r\n", strings.Repeat("y", 200), example} {
			mustRefuse(t, "no line", "PROXY "+strings.Repeat("x", at-6)+"\n"+behind, late)
			if at < 15 {
				continue
			}
			b := "PROXY UNKNOWN " + strings.Repeat("x", at-15) + "\r\n" + behind
			if want == api.OK {
				mustBe(t, "a line", b, api.Stream{}, at+1)
			} else {
				mustRefuse(t, "a line", b, want)
			}
			mustRefuse(t, "without byte 13", "PROXY UNKNOWN "+strings.Repeat("x", at-14)+"\n"+behind, late)
		}
	}
	mustBe(t, "at place 106", "PROXY UNKNOWN"+strings.Repeat(" ", 92)+"\r\n", api.Stream{}, 107)
	mustRefuse(t, "at place 107", "PROXY UNKNOWN"+strings.Repeat(" ", 93)+"\r\n", api.ErrLength)
	mustRefuse(t, "at place 107, byte 13 at 106", "PROXY UNKNOWN"+strings.Repeat(" ", 93)+"\r\n"+example, api.ErrLength)
}

// P17.2: the first byte 10 counts, and none behind it mends what is no line.
func TestGetFirstEnd(t *testing.T) {
	for _, line := range lines() {
		for at := 6; at < len(line)-1; at++ {
			mustRefuse(t, "an end within", line[:at]+"\n"+line[at:], api.ErrForm)
			mustRefuse(t, "a byte 10 within", withByte(line, at, 10), api.ErrForm)
		}
		for _, ahead := range []string{"\n", "\r\n", " \r\n", "x\n", "UNKNOWN\n", "UNKNOW\r\n"} {
			mustRefuse(t, "an end ahead", "PROXY "+ahead+line, api.ErrForm)
			mustRefuse(t, "an end ahead", "PROXY "+ahead+line[6:], api.ErrForm)
		}
	}
}

// P17.2: an end that isn't 13 and 10: the one without the other, 13 elsewhere, 13 twice.
func TestGetEnds(t *testing.T) {
	for _, line := range lines() {
		body := line[:len(line)-2]
		for _, end := range []string{"\n", "\r\r\n", "\r\r\r\n", "\r \n", "\n\r", "\n\r\n", "\x00\n", "\x00\r\n", "\r\x00\n", "\t\r\n", "x\n", "\v\n", "\f\n", "\xc2\x85\n", "\n\n"} {
			mustRefuse(t, "end", body+end, api.ErrForm)
			mustRefuse(t, "end", body+end+"\r\n", api.ErrForm)
		}
		for _, end := range []string{"", "\r", "\r\r", "\r\x00", "\r\v", "\x8a", "\r\x8a", "\r\xe2\x90\x8a"} {
			mustRefuse(t, "none", body+end, api.ErrMore)
		}
		for at := range body {
			want := api.ErrForm
			if at < 6 {
				want = api.ErrSign
			}
			mustRefuse(t, "13 elsewhere", body[:at]+"\r"+body[at:]+"\n", want)
			mustRefuse(t, "13 elsewhere, too", body[:at]+"\r"+body[at:]+"\r\n", want)
		}
	}
}

// P17.2: each byte right behind UNKNOWN: only a blank, or the end, may stand there.
func TestGetRightBehindUnknown(t *testing.T) {
	for n := range 256 {
		b := "PROXY UNKNOWN" + string([]byte{byte(n)})
		if n == ' ' {
			mustBe(t, "a blank", b+"\r\n", api.Stream{}, 16)
			mustBe(t, "a blank and more", b+"x\r\n", api.Stream{}, 17)
			continue
		}
		mustRefuse(t, "no blank", b+"\r\n", api.ErrForm)
		mustRefuse(t, "no blank, and more", b+"x\r\n", api.ErrForm)
		mustRefuse(t, "no blank, but behind", b+" x\r\n", api.ErrForm)
	}
}

// P17.2: each byte behind UNKNOWN and a blank, alone, doubled, ahead of and behind others: only 10 may not stand there.
func TestGetEachByteBehindUnknown(t *testing.T) {
	for n := range 256 {
		c := string([]byte{byte(n)})
		for _, more := range []string{c, c + c, c + "x", "x" + c, " " + c, c + " ", "a" + c + "b", c + "\r", "\r" + c, " x" + c + " y "} {
			b := "PROXY UNKNOWN " + more + "\r\n"
			switch {
			case more == "\r\n":
				mustBe(t, "an end", b, api.Stream{}, 16)
				continue
			case n == 10:
				mustRefuse(t, "a byte 10", b, api.ErrForm)
				continue
			}
			mustBe(t, "any byte", b, api.Stream{}, len(b))
		}
	}
}

// P17.2: anything behind UNKNOWN, of every number of bytes that a line has room for, and of one more.
func TestGetMuchBehindUnknown(t *testing.T) {
	draw := rand.New(rand.NewSource(173))
	for _, fixed := range []string{" ", "x", "\r", "\x00", "\xff", "1.2.3.4 5.6.7.8 9 10 ", "\r\r ", "TCP4 ", "UNKNOWN ", "PROXY UNKNOWN\r"} {
		for size := range 92 {
			b := "PROXY UNKNOWN " + strings.Repeat(fixed, size)[:size] + "\r\n"
			mustBe(t, "anything", b, api.Stream{}, 16+size)
			mustBe(t, "anything", b+"\nx", api.Stream{}, 16+size)
		}
		for size := 92; size < 120; size++ {
			mustRefuse(t, "too much", "PROXY UNKNOWN "+strings.Repeat(fixed, size)[:size]+"\r\n", api.ErrLength)
		}
	}
	for range 20000 {
		size := draw.Intn(92)
		b := "PROXY UNKNOWN " + strings.ReplaceAll(drawnText(draw, size), "\n", "\r") + "\r\n"
		mustBe(t, "drawn", b, api.Stream{}, 16+size)
	}
}

// P17.2: nothing of what stands behind UNKNOWN is told, not even what would be right behind another word.
func TestGetUnknownTellsNothing(t *testing.T) {
	for _, line := range lines() {
		words := strings.SplitN(line, " ", 3)
		if len(words) == 3 {
			b := "PROXY UNKNOWN " + words[2]
			mustBe(t, "another's words", b, api.Stream{}, len(b))
		}
	}
}
