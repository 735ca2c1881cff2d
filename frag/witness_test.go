package frag_test

import (
	"fmt"
	"math/rand"
	"strings"
	"testing"

	"palanquin/api"
	"palanquin/frag"
)

// all is more bytes than any text of a test has.
const all = 1 << 20

// made is what a packet is made of, right or wrong.
type made struct {
	tos, id, offset, ttl, proto int
	df, mf                      bool
	src, dst, options, payload  string

	// Bits that are turned: of the first byte, of the two with DF, and of the sum, once that is right.
	first, flags, wrong int

	off  int // how many bytes more it says to have
	left int // how many of its bytes are left
}

// plain is a packet whose fields are all unlike the others.
func plain(options, payload int) made {
	return made{
		tos: 0x11, id: 0x2233, ttl: 0x66, proto: 0x77, src: "\x0a\x01\x02\x03", dst: "\xc0\xa8\xff\x04",
		options: counted(options), payload: counted(payload), left: all,
	}
}

// counted is a text of which no 251 bytes in a row have two alike.
func counted(length int) string {
	text := make([]byte, length)
	for i := range text {
		text[i] = byte(1 + i%251)
	}
	return string(text)
}

func (m made) text() string {
	length := 20 + len(m.options) + len(m.payload) + m.off
	flags := m.offset + 8192*bit(m.mf) + 16384*bit(m.df) ^ m.flags
	header := byteText(69+len(m.options)/4^m.first) + byteText(m.tos) + two(length) + two(m.id) + two(flags) +
		byteText(m.ttl) + byteText(m.proto) + two(0) + m.src + m.dst + m.options
	p := header[:10] + two(slowSum(header)^m.wrong) + header[12:] + m.payload
	return p[:min(len(p), m.left)]
}

// header is how many bytes stand ahead of a packet's payload.
func header(p string) int { return 4 * int(p[0]%16) }

// offset, more and only are what a packet says of its Offset, MF and DF.
func offset(p string) int { return number(p, 6) % 8192 }

func more(p string) bool { return p[6]/32%2 == 1 }

func only(p string) bool { return p[6]/64%2 == 1 }

// payloads are what stands behind the headers, one behind the other.
func payloads(list []string) string {
	var b strings.Builder
	for _, p := range list {
		b.WriteString(p[header(p):])
	}
	return b.String()
}

// slowPart goes up by 8 bytes at a time.
func slowPart(header, mtu int) int {
	n := 0
	for header+n+8 <= mtu {
		n += 8
	}
	return n
}

// slowGet asks layer 5's questions of the bytes, one by one.
func slowGet(p string) api.Errno {
	switch {
	case len(p) < 20:
		return api.ErrShort
	case p[0]/16 != 4:
		return api.ErrVersion
	case header(p) < 20 || header(p) > len(p) || number(p, 2) != len(p):
		return api.ErrLength
	case slowSum(p[:header(p)]) != 0:
		return api.ErrSum
	case p[6] >= 128:
		return api.ErrForm
	}
	return api.OK
}

// slowCut takes the bytes of the packet for each piece, and mends those that are others.
func slowCut(p string, mtu int) ([]string, api.Errno) {
	if e := slowGet(p); e != api.OK {
		return nil, e
	}
	ahead := header(p)
	part := 0
	if mtu <= 65535 {
		part = slowPart(ahead, mtu)
	}
	switch {
	case mtu < 28 || mtu > 65535:
		return nil, api.ErrRange
	case len(p) <= mtu:
		return []string{p}, api.OK
	case only(p):
		return nil, api.ErrBig
	case part == 0:
		return nil, api.ErrRange
	}
	var list []string
	for at := ahead; at < len(p); at += part {
		end := min(at+part, len(p))
		place := offset(p) + (at-ahead)/8
		if place > 8191 {
			return nil, api.ErrLength
		}
		list = append(list, slowPiece(p, at, end, place, end < len(p) || more(p)))
	}
	return list, api.OK
}

// slowPiece is the packet's header, with the bytes between two places behind it.
func slowPiece(p string, at, end, place int, mf bool) string {
	h := p[:2] + two(header(p)+end-at) + p[4:6] + two(place+8192*bit(mf)) + p[8:10] + two(0) + p[12:header(p)]
	return h[:10] + two(slowSum(h)) + h[12:] + p[at:end]
}

// slowSum is the sum of a text: its numbers of two bytes, folded, turned over.
func slowSum(text string) int {
	total := 0
	for i := 0; i < len(text); i += 2 {
		total += number(text, i)
	}
	for total > 65535 {
		total = total%65536 + total/65536
	}
	return 65535 - total
}

func number(b string, at int) int { return int(b[at])*256 + int(b[at+1]) }

func two(n int) string { return string([]byte{byte(n / 256), byte(n)}) }

func byteText(b int) string { return string([]byte{byte(b)}) }

func bit(on bool) int {
	if on {
		return 1
	}
	return 0
}

// mustCut holds Cut against the slow one where it cuts, and tells the pieces.
func mustCut(t *testing.T, p string, mtu int) []string {
	t.Helper()
	list, e := mustAnswer(t, p, mtu)
	if e != api.OK {
		t.Fatalf("Cut(%s, %d): %v", shown(p), mtu, e)
	}
	return list
}

// mustAnswer holds Cut against the slow one, whatever that answers.
func mustAnswer(t *testing.T, p string, mtu int) ([]string, api.Errno) {
	t.Helper()
	list, e := frag.Cut(p, mtu)
	want, no := slowCut(p, mtu)
	if e != no || len(list) != len(want) {
		t.Fatalf("Cut(%s, %d): %d pieces, %v; want %d, %v", shown(p), mtu, len(list), e, len(want), no)
	}
	for i := range list {
		if list[i] != want[i] {
			t.Fatalf("Cut(%s, %d): piece %d is %s, want %s", shown(p), mtu, i, shown(list[i]), shown(want[i]))
		}
	}
	return list, e
}

// mustRefuse says what error Cut must tell, with no pieces beside it.
func mustRefuse(t *testing.T, why, p string, mtu int, want api.Errno) {
	t.Helper()
	if list, e := frag.Cut(p, mtu); len(list) != 0 || e != want {
		t.Errorf("%s: Cut(%s, %d): %d pieces, %v; want none, %v", why, shown(p), mtu, len(list), e, want)
	}
}

// mustStay says that a packet is told alone, as it is.
func mustStay(t *testing.T, why, p string, mtu int) {
	t.Helper()
	if list, e := frag.Cut(p, mtu); len(list) != 1 || list[0] != p || e != api.OK {
		t.Errorf("%s: Cut(%s, %d): %d pieces, %v; want it alone", why, shown(p), mtu, len(list), e)
	}
}

// mustHave says how many bytes of payload the pieces must have.
func mustHave(t *testing.T, p string, mtu int, sizes ...int) {
	t.Helper()
	var got []int
	for _, piece := range mustCut(t, p, mtu) {
		got = append(got, len(piece)-header(piece))
	}
	if fmt.Sprint(got) != fmt.Sprint(sizes) {
		t.Errorf("Cut(%s, %d): payloads of %v bytes, want %v", shown(p), mtu, got, sizes)
	}
}

func shown(text string) string {
	if len(text) > 80 {
		return fmt.Sprintf("%x.. of %d bytes", text[:80], len(text))
	}
	return fmt.Sprintf("%x", text)
}

func drawnText(draw *rand.Rand, length int) string {
	text := make([]byte, length)
	draw.Read(text)
	return string(text)
}

// drawnPacket is one that may be, now and then itself a piece, without DF.
func drawnPacket(draw *rand.Rand, most int) made {
	m := made{
		tos: draw.Intn(256), id: draw.Intn(65536), ttl: draw.Intn(256), proto: draw.Intn(256), src: drawnText(draw, 4), dst: drawnText(draw, 4),
		options: drawnText(draw, 4*draw.Intn(11)), payload: drawnText(draw, draw.Intn(most+1)), left: all,
	}
	if draw.Intn(2) == 1 {
		m.offset, m.mf = draw.Intn(7000), draw.Intn(2) == 1
	}
	return m
}
