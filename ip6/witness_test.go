package ip6_test

import (
	"math/rand"
	"strings"
	"testing"

	"palanquin/api"
	"palanquin/ip6"
)

// plain is a header that may be, with every field unlike the others.
func plain() api.Header6 {
	return api.Header6{
		Class: 0x1e, Label: 0x2d3c4, Next: 0x55, Hops: 0x66,
		Src: "\x20\x01\x0d\xb8\x01\x02\x03\x04\x05\x06\x07\x08\x09\x0a\x0b\x0c",
		Dst: "\xfe\x80\x00\x00\x10\x20\x30\x40\x50\x60\x70\x80\x90\xa0\xb0\xc0",
	}
}

// slowPut is a packet byte by byte, of a header that may be, and a payload that isn't too long.
func slowPut(h api.Header6, payload string) string {
	b := []byte{
		byte(6*16 + h.Class/16), byte(h.Class%16*16 + h.Label/65536), byte(h.Label / 256 % 256), byte(h.Label % 256),
		byte(len(payload) / 256), byte(len(payload) % 256), byte(h.Next), byte(h.Hops),
	}
	return string(b) + h.Src + h.Dst + payload
}

// slowGet asks the chapter's questions, one by one.
func slowGet(p string) (api.Header6, string, api.Errno) {
	var none api.Header6
	if len(p) < 40 {
		return none, "", api.ErrShort
	}
	if p[0]/16 != 6 {
		return none, "", api.ErrVersion
	}
	if int(p[4])*256+int(p[5]) != len(p)-40 {
		return none, "", api.ErrLength
	}
	h := api.Header6{Class: int(p[0]%16)*16 + int(p[1]/16), Label: int(p[1]%16)*65536 + int(p[2])*256 + int(p[3])}
	h.Next, h.Hops, h.Src, h.Dst = int(p[6]), int(p[7]), p[8:24], p[24:40]
	return h, p[40:], api.OK
}

// withByte is p with another byte at a place.
func withByte(p string, at int, b byte) string { return p[:at] + string([]byte{b}) + p[at+1:] }

// saying is p, saying that its payload has n bytes.
func saying(p string, n int) string {
	return p[:4] + string([]byte{byte(n / 256), byte(n % 256)}) + p[6:]
}

// mustPut holds Put against the slow one, and tells the packet.
func mustPut(t *testing.T, h api.Header6, payload string) string {
	t.Helper()
	if e := ip6.Check(h); e != api.OK {
		t.Fatalf("Check(%#v): %v", h, e)
	}
	p, e := ip6.Put(h, payload)
	if want := slowPut(h, payload); p != want || e != api.OK {
		t.Fatalf("Put(%#v, %d bytes): %s, %v; want %s", h, len(payload), shown(p), e, shown(want))
	}
	return p
}

// mustNotBe holds a header that may not be against Check and against Put, with payloads that fit and that don't.
func mustNotBe(t *testing.T, why string, h api.Header6) {
	t.Helper()
	if e := ip6.Check(h); e != api.ErrRange {
		t.Errorf("%s: Check: %v", why, e)
	}
	for _, n := range []int{0, 1, 65535, 65536, 1 << 18} {
		if p, e := ip6.Put(h, strings.Repeat("x", n)); p != "" || e != api.ErrRange {
			t.Errorf("%s, payload of %d: Put: %d bytes, %v", why, n, len(p), e)
		}
	}
}

// mustGet holds Get against the slow one, and tells the error.
func mustGet(t *testing.T, p string) api.Errno {
	t.Helper()
	h, payload, e := ip6.Get(p)
	wantH, wantPayload, want := slowGet(p)
	if h != wantH || payload != wantPayload || e != want {
		t.Fatalf("Get(%s): %#v, %d bytes, %v; want %#v, %d bytes, %v", shown(p), h, len(payload), e, wantH, len(wantPayload), want)
	}
	return e
}

// mustRefuse says what error Get must tell, with the zero header and no payload.
func mustRefuse(t *testing.T, why, p string, want api.Errno) {
	t.Helper()
	if h, payload, e := ip6.Get(p); e != want || h != (api.Header6{}) || payload != "" {
		t.Errorf("%s: Get(%s): %#v, %d bytes, %v; want %v", why, shown(p), h, len(payload), e, want)
	}
}

func shown(p string) string {
	const digits = "0123456789abcdef"
	var s strings.Builder
	for i := range min(len(p), 64) {
		s.WriteByte(digits[p[i]>>4])
		s.WriteByte(digits[p[i]&15])
	}
	if len(p) > 64 {
		s.WriteString("..")
	}
	return s.String()
}

func drawnText(draw *rand.Rand, length int) string {
	text := make([]byte, length)
	draw.Read(text)
	return string(text)
}

func drawnHeader(draw *rand.Rand) api.Header6 {
	return api.Header6{
		Class: draw.Intn(256), Label: draw.Intn(1 << 20), Next: draw.Intn(256), Hops: draw.Intn(256),
		Src: drawnText(draw, 16), Dst: drawnText(draw, 16),
	}
}
