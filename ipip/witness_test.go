package ipip_test

import (
	"math"
	"math/rand"
	"strings"
	"testing"

	"palanquin/api"
	"palanquin/ipip"
)

// Packets that are known byte by byte: a datagram "abc" in IPv4, and a segment in IPv6.
const (
	whole4 = "\x45\x00\x00\x1f\x00\x00\x40\x00\x40\x11\x26\xcc\x0a\x00\x00\x01\x0a\x00\x00\x02" +
		"\x9c\x40\x00\x35\x00\x0b\x8a\xfdabc"
	whole6 = "\x60\x00\x00\x00\x00\x14\x06\x40\x20\x01\x0d\xb8\x00\x00\x00\x00\x00\x00\x00\x00\x00\x00\x00\x01" +
		"\x20\x01\x0d\xb8\x00\x00\x00\x00\x00\x00\x00\x00\x00\x00\x00\x02" +
		"\x9c\x40\x00\x50\x00\x00\x00\x01\x00\x00\x00\x00\x50\x02\xfa\xf0\xbc\xeb\x00\x00"
)

// behinds are what may stand behind a first byte: nothing, what looks like another packet, and more than a packet may have.
func behinds() []string {
	return []string{
		"", "\x00", "\x45", "\x60", "\xff", "ab", " \n\x00", "\xc3\xa9\xff\xfe", whole4[1:], whole6[1:], whole4, whole6,
		strings.Repeat("\x00", 19), strings.Repeat("\x60", 19), strings.Repeat("\x45", 39),
		strings.Repeat("\x04", 65534), strings.Repeat("\x29", 65535), strings.Repeat("z", 1<<17),
	}
}

// otherProtos are neither 4 nor 41, and some are like them, once they are cut to fewer bits, or turned.
func otherProtos() []int {
	protos := []int{
		0, 1, 3, 5, 6, 14, 17, 20, 40, 42, 47, 0x0800, 0x86dd, math.MaxInt, math.MaxInt - 1, math.MinInt, math.MinInt + 1,
		math.MinInt + 4, math.MinInt + 41, -1, -2, -3, -4, -5, -6, -17, -40, -41, -42, ^4, ^41,
	}
	for _, proto := range []int{4, 41} {
		for bits := 6; bits < 63; bits++ {
			protos = append(protos, proto+1<<bits, proto-1<<bits)
		}
	}
	return protos
}

func byteText(b int) string { return string([]byte{byte(b)}) }

// slowTell asks the chapter's questions of the first byte itself.
func slowTell(inner string) (proto, kind int, e api.Errno) {
	if len(inner) == 0 {
		return 0, 0, api.ErrShort
	}
	switch first := inner[0]; {
	case first >= 64 && first <= 79:
		return 4, 8*256 + 0, api.OK
	case first >= 96 && first <= 111:
		return 41, 134*256 + 221, api.OK
	}
	return 0, 0, api.ErrVersion
}

// slowGet asks the chapter's questions one by one.
func slowGet(proto int, payload string) (string, api.Errno) {
	if proto != 4 && proto != 41 {
		return "", api.ErrProto
	}
	told, _, e := slowTell(payload)
	if e != api.OK {
		return "", e
	}
	if told != proto {
		return "", api.ErrVersion
	}
	return payload, api.OK
}

// mustBe says what Proto, Kind and Put must tell of a packet.
func mustBe(t *testing.T, inner string, proto, kind int) {
	t.Helper()
	if n, e := ipip.Proto(inner); n != proto || e != api.OK {
		t.Errorf("Proto(%s): %d, %v; want %d", shown(inner), n, e, proto)
	}
	if n, e := ipip.Kind(inner); n != kind || e != api.OK {
		t.Errorf("Kind(%s): %#x, %v; want %#x", shown(inner), n, e, kind)
	}
	if n, s, e := ipip.Put(inner); n != proto || s != inner || e != api.OK {
		t.Errorf("Put(%s): %d, %s, %v; want %d and the packet", shown(inner), n, shown(s), e, proto)
	}
}

// mustRefuse says what error Proto, Kind and Put must tell, with zero values beside it.
func mustRefuse(t *testing.T, inner string, want api.Errno) {
	t.Helper()
	if n, e := ipip.Proto(inner); n != 0 || e != want {
		t.Errorf("Proto(%s): %d, %v; want 0, %v", shown(inner), n, e, want)
	}
	if n, e := ipip.Kind(inner); n != 0 || e != want {
		t.Errorf("Kind(%s): %#x, %v; want 0, %v", shown(inner), n, e, want)
	}
	if n, s, e := ipip.Put(inner); n != 0 || s != "" || e != want {
		t.Errorf("Put(%s): %d, %s, %v; want 0, nothing, %v", shown(inner), n, shown(s), e, want)
	}
}

// mustTell holds Proto, Kind and Put against the slow one, and tells the error.
func mustTell(t *testing.T, inner string) api.Errno {
	t.Helper()
	proto, kind, e := slowTell(inner)
	if e == api.OK {
		mustBe(t, inner, proto, kind)
	} else {
		mustRefuse(t, inner, e)
	}
	return e
}

// mustGive says that Get must answer the payload as it was.
func mustGive(t *testing.T, proto int, payload string) {
	t.Helper()
	if s, e := ipip.Get(proto, payload); s != payload || e != api.OK {
		t.Errorf("Get(%d, %s): %s, %v; want the payload", proto, shown(payload), shown(s), e)
	}
}

// mustNotGive says what error Get must tell, with no text beside it.
func mustNotGive(t *testing.T, proto int, payload string, want api.Errno) {
	t.Helper()
	if s, e := ipip.Get(proto, payload); s != "" || e != want {
		t.Errorf("Get(%d, %s): %s, %v; want nothing, %v", proto, shown(payload), shown(s), e, want)
	}
}

// mustGet holds Get against the slow one, and tells the error.
func mustGet(t *testing.T, proto int, payload string) api.Errno {
	t.Helper()
	s, e := slowGet(proto, payload)
	if e == api.OK {
		mustGive(t, proto, s)
	} else {
		mustNotGive(t, proto, payload, e)
	}
	return e
}

func shown(text string) string {
	const digits = "0123456789abcdef"
	var s strings.Builder
	for i := range min(len(text), 64) {
		s.WriteByte(digits[text[i]>>4])
		s.WriteByte(digits[text[i]&15])
	}
	if len(text) > 64 {
		s.WriteString("..")
	}
	return s.String()
}

func drawnText(draw *rand.Rand, length int) string {
	text := make([]byte, length)
	draw.Read(text)
	return string(text)
}
