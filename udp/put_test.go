package udp_test

import (
	"math/rand"
	"strings"
	"testing"

	"palanquin/api"
	"palanquin/udp"
)

// P8.1: the chapter's example, and others that are known byte by byte.
func TestPutKnownDatagrams(t *testing.T) {
	for _, x := range []struct {
		d    api.Datagram
		sum  int
		want string
	}{
		{api.Datagram{Src: 1, Dst: 2, Payload: "x"}, 0xabcd, "\x00\x01\x00\x02\x00\x09\xab\xcd\x78"},
		{api.Datagram{}, 0, "\x00\x00\x00\x00\x00\x08\x00\x00"},
		{api.Datagram{Src: 65535, Dst: 65535}, 65535, "\xff\xff\xff\xff\x00\x08\xff\xff"},
		{api.Datagram{Src: 0xc001, Dst: api.GuePort, Payload: "\x00\x04\x00\x00"}, 0x0102, "\xc0\x01\x17\xc0\x00\x0c\x01\x02\x00\x04\x00\x00"},
		{api.Datagram{Src: 53, Dst: 40000, Payload: "\xff\x00\x80"}, 0xfffe, "\x00\x35\x9c\x40\x00\x0b\xff\xfe\xff\x00\x80"},
	} {
		if e := udp.Check(x.d); e != api.OK {
			t.Errorf("Check(%s): %v", told(x.d), e)
		}
		if b, e := udp.Put(x.d, x.sum); b != x.want || e != api.OK {
			t.Errorf("Put(%s, %d): %s, %v", told(x.d), x.sum, shown(b), e)
		}
	}
}

// P8.1: each port at its least and greatest, one below, one above, and far off.
func TestPortsAtTheirEdges(t *testing.T) {
	for _, x := range ports() {
		for _, n := range fitting() {
			d := plain()
			*x.of(&d) = n
			mustPut(t, d, plainSum)
		}
		for _, n := range tooFar() {
			d := plain()
			*x.of(&d) = n
			mustNotBe(t, x.name, d, api.ErrRange)
		}
	}
}

// P8.1: neither port makes up for the other.
func TestBothPortsTooFar(t *testing.T) {
	for _, src := range tooFar() {
		for _, dst := range tooFar() {
			mustNotBe(t, "both", api.Datagram{Src: src, Dst: dst}, api.ErrRange)
		}
	}
}

// P8.1: the sum at its least and greatest, one below, one above, and far off.
func TestSumAtItsEdges(t *testing.T) {
	for _, sum := range fitting() {
		mustPut(t, plain(), sum)
	}
	for _, sum := range tooFar() {
		for _, d := range []api.Datagram{plain(), {}, {Payload: strings.Repeat("p", 65527)}} {
			mustNotPut(t, "sum", d, sum, api.ErrRange)
		}
	}
}

// P8.1: payloads of every number of bytes up to some, of just 65527, and of more.
func TestPayloadsOfEveryLength(t *testing.T) {
	lengths := []int{1000, 4096, 32759, 32760, 65279, 65280, 65526, 65527}
	for n := range 600 {
		lengths = append(lengths, n)
	}
	for _, n := range lengths {
		for _, with := range []string{"\x00", "p", "\xff"} {
			d := plain()
			d.Payload = strings.Repeat(with, n)
			if b := mustPut(t, d, plainSum); len(b) != 8+n {
				t.Errorf("payload of %d: %d bytes", n, len(b))
			}
		}
	}
	for _, n := range tooLong() {
		d := plain()
		d.Payload = strings.Repeat("p", n)
		mustNotBe(t, "payload", d, api.ErrLength)
	}
}

// P8.1: a port that may not be is told ahead of a payload that is too long.
func TestPortAheadOfPayload(t *testing.T) {
	for _, length := range tooLong() {
		payload := strings.Repeat("p", length)
		for _, x := range ports() {
			for _, n := range tooFar() {
				d := api.Datagram{Src: 1, Dst: 2, Payload: payload}
				*x.of(&d) = n
				mustNotBe(t, x.name, d, api.ErrRange)
			}
		}
	}
}

// P8.1: Check's error is told ahead of a sum that may not be; a payload that is too long has another one than it.
func TestPayloadAheadOfSum(t *testing.T) {
	for _, length := range tooLong() {
		d := plain()
		d.Payload = strings.Repeat("p", length)
		for _, sum := range tooFar() {
			mustNotPut(t, "payload and sum", d, sum, api.ErrLength)
		}
	}
}

// P8.1: each field has its own place, to a bit.
func TestPlacesOfTheFields(t *testing.T) {
	bare := mustPut(t, api.Datagram{}, 0)
	for _, x := range []struct {
		name  string
		first int // the place of its first byte
		put   func(n int) (string, api.Errno)
	}{
		{"Src", 0, func(n int) (string, api.Errno) { return udp.Put(api.Datagram{Src: n}, 0) }},
		{"Dst", 2, func(n int) (string, api.Errno) { return udp.Put(api.Datagram{Dst: n}, 0) }},
		{"sum", 6, func(n int) (string, api.Errno) { return udp.Put(api.Datagram{}, n) }},
	} {
		for bit := range 16 {
			at := x.first + bit/8
			want := withByte(bare, at, bare[at]|0x80>>(bit%8))
			if b, e := x.put(1 << (15 - bit)); b != want || e != api.OK {
				t.Errorf("%s, bit %d: %s, %v; want %s", x.name, bit, shown(b), e, shown(want))
			}
		}
	}
}

// P8.1: the length that is said has its highest byte first, and counts the eight bytes ahead of the payload.
func TestLengthThatIsSaid(t *testing.T) {
	for _, x := range []struct {
		payload int
		said    string
	}{
		{0, "\x00\x08"}, {1, "\x00\x09"}, {247, "\x00\xff"}, {248, "\x01\x00"}, {250, "\x01\x02"}, {0x1234 - 8, "\x12\x34"},
		{32760, "\x80\x00"}, {65526, "\xff\xfe"}, {65527, "\xff\xff"},
	} {
		b, e := udp.Put(api.Datagram{Payload: strings.Repeat("p", x.payload)}, 0)
		if e != api.OK || b[4:6] != x.said {
			t.Errorf("payload of %d: %s, %v", x.payload, shown(b), e)
		}
	}
}

// P8.1: drawn datagrams, held against the slow bytes.
func TestPutDrawn(t *testing.T) {
	draw := rand.New(rand.NewSource(81))
	for range 5000 {
		d, sum := drawnDatagram(draw)
		mustPut(t, d, sum)
	}
}

// P8.1: the same call answers the same, whatever was called between.
func TestPutTwice(t *testing.T) {
	first := mustPut(t, plain(), plainSum)
	udp.Put(api.Datagram{Src: -1}, 0)
	udp.Put(api.Datagram{Src: 7, Payload: "other"}, 9)
	udp.Get("other")
	if again := mustPut(t, plain(), plainSum); again != first {
		t.Errorf("%s, then %s", shown(first), shown(again))
	}
}
