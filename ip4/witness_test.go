package ip4_test

import (
	"math/rand"
	"strings"
	"testing"

	"palanquin/api"
	"palanquin/ip4"
)

// plain is a header that may be, with every field unlike the others.
func plain() api.Header4 {
	return api.Header4{TOS: 0x11, ID: 0x2233, Offset: 0x0405, TTL: 0x66, Proto: 0x77, Src: "\x0a\x01\x02\x03", Dst: "\xc0\xa8\xff\x04"}
}

// slowSum is the chapter's sum of a header: its numbers of two bytes, folded, turned over.
func slowSum(header []byte) int {
	total := 0
	for i := 0; i < len(header); i += 2 {
		total += int(header[i])*256 + int(header[i+1])
	}
	for total > 65535 {
		total = total%65536 + total/65536
	}
	return 65535 - total
}

// slowPut is a packet byte by byte, of a header that may be.
func slowPut(h api.Header4, payload string) string {
	words := 5 + len(h.Options)/4
	all := 4*words + len(payload)
	flags := h.Offset
	if h.MF {
		flags += 8192
	}
	if h.DF {
		flags += 16384
	}
	b := []byte{
		byte(64 + words), byte(h.TOS), byte(all / 256), byte(all % 256),
		byte(h.ID / 256), byte(h.ID % 256), byte(flags / 256), byte(flags % 256),
		byte(h.TTL), byte(h.Proto), 0, 0,
	}
	b = append(b, h.Src+h.Dst+h.Options...)
	return withSum(string(b) + payload)
}

// withSum is a packet with the right sum in its place, of as long a header as it says and has.
func withSum(p string) string {
	b := []byte(p)
	size := min(int(b[0]%16)*4, len(b)/2*2)
	b[10], b[11] = 0, 0
	n := slowSum(b[:size])
	b[10], b[11] = byte(n/256), byte(n%256)
	return string(b)
}

// withByte is p with another byte at a place.
func withByte(p string, at int, b byte) string { return p[:at] + string([]byte{b}) + p[at+1:] }

// saying is p, saying that it has n bytes.
func saying(p string, n int) string {
	return p[:2] + string([]byte{byte(n / 256), byte(n % 256)}) + p[4:]
}

// slowGet asks the chapter's questions, one by one.
func slowGet(p string) (api.Header4, string, api.Errno) {
	var none api.Header4
	if len(p) < 20 {
		return none, "", api.ErrShort
	}
	b := []byte(p)
	words := int(b[0] % 16)
	two := func(at int) int { return int(b[at])*256 + int(b[at+1]) }
	switch {
	case b[0]/16 != 4:
		return none, "", api.ErrVersion
	case words < 5, words*4 > len(b), two(2) != len(b):
		return none, "", api.ErrLength
	case slowSum(b[:words*4]) != 0:
		return none, "", api.ErrSum
	case b[6] >= 128:
		return none, "", api.ErrForm
	}
	h := api.Header4{TOS: int(b[1]), ID: two(4), Offset: two(6) % 8192, TTL: int(b[8]), Proto: int(b[9])}
	h.DF, h.MF = b[6]/64%2 == 1, b[6]/32%2 == 1
	h.Src, h.Dst, h.Options = p[12:16], p[16:20], p[20:words*4]
	return h, p[words*4:], api.OK
}

// mustGet holds Get against the slow one, and tells the error.
func mustGet(t *testing.T, p string) api.Errno {
	t.Helper()
	h, payload, e := ip4.Get(p)
	wantH, wantPayload, want := slowGet(p)
	if h != wantH || payload != wantPayload || e != want {
		t.Fatalf("Get(%s): %#v, %d bytes, %v; want %#v, %d bytes, %v", shown(p), h, len(payload), e, wantH, len(wantPayload), want)
	}
	return e
}

// mustRefuse says what error Get must tell, with the zero header and no payload.
func mustRefuse(t *testing.T, why, p string, want api.Errno) {
	t.Helper()
	if h, payload, e := ip4.Get(p); e != want || h != (api.Header4{}) || payload != "" {
		t.Errorf("%s: Get(%s): %#v, %d bytes, %v; want %v", why, shown(p), h, len(payload), e, want)
	}
}

// mustPut holds Put against the slow one, and tells the packet.
func mustPut(t *testing.T, h api.Header4, payload string) string {
	t.Helper()
	if e := ip4.Check(h); e != api.OK {
		t.Fatalf("Check(%#v): %v", h, e)
	}
	p, e := ip4.Put(h, payload)
	if want := slowPut(h, payload); p != want || e != api.OK {
		t.Fatalf("Put(%#v, %d bytes): %s, %v; want %s", h, len(payload), shown(p), e, shown(want))
	}
	return p
}

func shown(p string) string {
	const digits = "0123456789abcdef"
	var s strings.Builder
	for i := range min(len(p), 64) {
		s.WriteByte(digits[p[i]>>4])
		s.WriteByte(digits[p[i]&15])
	}
	if len(p) > 64 {
		s.WriteString("..")
	}
	return s.String()
}

func drawnText(draw *rand.Rand, length int) string {
	text := make([]byte, length)
	draw.Read(text)
	return string(text)
}

func drawnHeader(draw *rand.Rand) api.Header4 {
	return api.Header4{
		TOS: draw.Intn(256), ID: draw.Intn(65536), Offset: draw.Intn(8192), TTL: draw.Intn(256), Proto: draw.Intn(256),
		DF: draw.Intn(2) == 1, MF: draw.Intn(2) == 1,
		Src: drawnText(draw, 4), Dst: drawnText(draw, 4), Options: drawnText(draw, 4*draw.Intn(11)),
	}
}
