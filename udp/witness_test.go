package udp_test

import (
	"fmt"
	"math"
	"math/rand"
	"strings"
	"testing"

	"palanquin/api"
	"palanquin/udp"
)

// plain is a datagram that may be, with every field unlike the others.
func plain() api.Datagram {
	return api.Datagram{Src: 0x1122, Dst: 0x3344, Payload: "pay\x00\xffload"}
}

// plainSum is unlike plain's fields.
const plainSum = 0x5566

type number struct {
	name string
	of   func(d *api.Datagram) *int
}

// ports names the datagram's numbers.
func ports() []number {
	return []number{
		{"Src", func(d *api.Datagram) *int { return &d.Src }},
		{"Dst", func(d *api.Datagram) *int { return &d.Dst }},
	}
}

// fitting are numbers from 0 to 65535, the least and the greatest among them.
func fitting() []int {
	return []int{0, 1, 2, 127, 128, 255, 256, 257, 32767, 32768, 65279, 65280, 65534, 65535}
}

// tooFar are numbers outside 0 to 65535, among them those that wrap round to one that may be.
func tooFar() []int {
	return []int{-1, -2, -255, -256, -65535, -65536, 65536, 65537, 131071, 131072, 1 << 20, 1 << 31, 1 << 32, 1<<32 + 1, -1 << 32, math.MaxInt, math.MinInt, math.MinInt + 1}
}

// tooLong are lengths of payloads that may not be, among them those that wrap round to one that may be.
func tooLong() []int {
	return []int{65528, 65529, 65534, 65535, 65536, 65537, 131063, 131064, 131072, 1 << 18}
}

// slowPut is a datagram byte by byte, of one that may be, with a sum that may be.
func slowPut(d api.Datagram, sum int) string {
	size := 8 + len(d.Payload)
	b := []byte{
		byte(d.Src / 256), byte(d.Src % 256), byte(d.Dst / 256), byte(d.Dst % 256),
		byte(size / 256), byte(size % 256), byte(sum / 256), byte(sum % 256),
	}
	return string(b) + d.Payload
}

// slowGet asks the chapter's questions, one by one.
func slowGet(b string) (api.Datagram, int, api.Errno) {
	if len(b) < 8 {
		return api.Datagram{}, 0, api.ErrShort
	}
	two := func(at int) int { return int(b[at])*256 + int(b[at+1]) }
	if two(4) != len(b) {
		return api.Datagram{}, 0, api.ErrLength
	}
	return api.Datagram{Src: two(0), Dst: two(2), Payload: b[8:]}, two(6), api.OK
}

// withByte is b with another byte at a place.
func withByte(b string, at int, x byte) string { return b[:at] + string([]byte{x}) + b[at+1:] }

// saying is b, saying that it has n bytes in all.
func saying(b string, n int) string {
	return b[:4] + string([]byte{byte(n / 256), byte(n % 256)}) + b[6:]
}

// mustPut holds Put against the slow one, and tells the bytes.
func mustPut(t *testing.T, d api.Datagram, sum int) string {
	t.Helper()
	if e := udp.Check(d); e != api.OK {
		t.Fatalf("Check(%s): %v", told(d), e)
	}
	b, e := udp.Put(d, sum)
	if want := slowPut(d, sum); b != want || e != api.OK {
		t.Fatalf("Put(%s, %d): %s, %v; want %s", told(d), sum, shown(b), e, shown(want))
	}
	return b
}

// mustNotBe holds a datagram that may not be against Check and against Put, with sums that may be and that may not.
func mustNotBe(t *testing.T, why string, d api.Datagram, want api.Errno) {
	t.Helper()
	if e := udp.Check(d); e != want {
		t.Errorf("%s: Check(%s): %v, want %v", why, told(d), e, want)
	}
	for _, sum := range []int{0, 1, 65535, 65536, -1, math.MinInt} {
		mustNotPut(t, why, d, sum, want)
	}
}

// mustNotPut says what error Put must tell, with no bytes.
func mustNotPut(t *testing.T, why string, d api.Datagram, sum int, want api.Errno) {
	t.Helper()
	if b, e := udp.Put(d, sum); b != "" || e != want {
		t.Errorf("%s: Put(%s, %d): %d bytes, %v; want %v", why, told(d), sum, len(b), e, want)
	}
}

// mustGet holds Get against the slow one, and tells the error.
func mustGet(t *testing.T, b string) api.Errno {
	t.Helper()
	d, sum, e := udp.Get(b)
	wantD, wantSum, want := slowGet(b)
	if d != wantD || sum != wantSum || e != want {
		t.Fatalf("Get(%s): %s, %d, %v; want %s, %d, %v", shown(b), told(d), sum, e, told(wantD), wantSum, want)
	}
	return e
}

// mustRefuse says what error Get must tell, with the zero datagram and no sum.
func mustRefuse(t *testing.T, why, b string, want api.Errno) {
	t.Helper()
	if d, sum, e := udp.Get(b); e != want || d != (api.Datagram{}) || sum != 0 {
		t.Errorf("%s: Get(%s): %s, %d, %v; want %v", why, shown(b), told(d), sum, e, want)
	}
}

// told is a datagram, cut to what a message has room for.
func told(d api.Datagram) string {
	return fmt.Sprintf("{%d %d %s, %d bytes}", d.Src, d.Dst, shown(d.Payload), len(d.Payload))
}

func shown(b string) string {
	const digits = "0123456789abcdef"
	var s strings.Builder
	for i := range min(len(b), 40) {
		s.WriteByte(digits[b[i]>>4])
		s.WriteByte(digits[b[i]&15])
	}
	if len(b) > 40 {
		s.WriteString("..")
	}
	return s.String()
}

func drawnText(draw *rand.Rand, length int) string {
	text := make([]byte, length)
	draw.Read(text)
	return string(text)
}

func drawnDatagram(draw *rand.Rand) (api.Datagram, int) {
	return api.Datagram{Src: draw.Intn(65536), Dst: draw.Intn(65536), Payload: drawnText(draw, draw.Intn(300))}, draw.Intn(65536)
}
