package udp_test

import (
	"math/rand"
	"strings"
	"testing"

	"palanquin/api"
	"palanquin/udp"
)

// P8.1: ordinary datagrams, the chapter's example among them, and sums of 0 and 65535.
func TestGetOrdinary(t *testing.T) {
	for _, x := range []struct {
		b    string
		want api.Datagram
		sum  int
	}{
		{"\x00\x01\x00\x02\x00\x09\xab\xcd\x78", api.Datagram{Src: 1, Dst: 2, Payload: "x"}, 0xabcd},
		{"\x00\x01\x00\x02\x00\x09\x00\x00\x78", api.Datagram{Src: 1, Dst: 2, Payload: "x"}, 0},
		{"\x00\x01\x00\x02\x00\x09\xff\xff\x78", api.Datagram{Src: 1, Dst: 2, Payload: "x"}, 65535},
		{"\x00\x00\x00\x00\x00\x08\x00\x00", api.Datagram{}, 0},
		{"\xff\xff\xff\xff\x00\x08\xff\xff", api.Datagram{Src: 65535, Dst: 65535}, 65535},
		{"\x80\x00\x00\x80\x00\x0b\x80\x01\xff\x00\x80", api.Datagram{Src: 0x8000, Dst: 0x80, Payload: "\xff\x00\x80"}, 0x8001},
	} {
		if d, sum, e := udp.Get(x.b); d != x.want || sum != x.sum || e != api.OK {
			t.Errorf("Get(%s): %s, %d, %v", shown(x.b), told(d), sum, e)
		}
	}
}

// P8.1: every length below 8, whatever length is said, just so many bytes among them.
func TestGetShort(t *testing.T) {
	whole := slowPut(api.Datagram{Src: 0x1122, Dst: 0x3344}, plainSum)
	mustRefuse(t, "nothing", "", api.ErrShort)
	for n := range 8 {
		mustRefuse(t, "cut", whole[:n], api.ErrShort)
		mustRefuse(t, "zeros", strings.Repeat("\x00", n), api.ErrShort)
		mustRefuse(t, "ones", strings.Repeat("\xff", n), api.ErrShort)
		for said := range 300 {
			mustRefuse(t, "cut, and says another", saying(whole, said)[:n], api.ErrShort)
		}
	}
	if e := mustGet(t, whole); e != api.OK {
		t.Errorf("8 bytes: %v", e)
	}
}

// P8.1: datagrams that say 0 to 7 bytes, however many they have.
func TestGetSaysTooFew(t *testing.T) {
	for said := range 8 {
		for length := range 40 {
			b := saying(slowPut(api.Datagram{Payload: strings.Repeat("p", length)}, plainSum), said)
			mustRefuse(t, "says too few", b, api.ErrLength)
		}
		long := saying(slowPut(api.Datagram{}, plainSum)+strings.Repeat("p", 65536-8+said), said)
		mustRefuse(t, "says its lowest two bytes", long, api.ErrLength)
	}
}

// P8.1: datagrams with a byte less, and with a byte more, than they say, of every length up to some, and of the greatest.
func TestGetByOneByte(t *testing.T) {
	lengths := []int{247, 248, 249, 32759, 32760, 65526, 65527}
	for n := range 100 {
		lengths = append(lengths, n)
	}
	for _, n := range lengths {
		whole := slowPut(api.Datagram{Src: 1, Dst: 2, Payload: strings.Repeat("p", n)}, plainSum)
		if e := mustGet(t, whole); e != api.OK {
			t.Errorf("payload of %d: %v", n, e)
		}
		mustRefuse(t, "a byte more", whole+"p", api.ErrLength)
		want := api.ErrLength
		if n == 0 {
			want = api.ErrShort
		}
		mustRefuse(t, "a byte less", whole[:len(whole)-1], want)
	}
}

// P8.1: datagrams with fewer and with more bytes than they say, by many; every length that can be said.
func TestGetOtherLengthThanSaid(t *testing.T) {
	whole := slowPut(plain(), plainSum)
	for length := 8; length < len(whole); length++ {
		mustRefuse(t, "fewer", whole[:length], api.ErrLength)
	}
	for _, more := range []int{1, 2, 3, 8, 9, 100, 65535, 65536, 65536 - len(whole), 1 << 17} {
		mustRefuse(t, "more", whole+strings.Repeat("x", more), api.ErrLength)
	}
	for _, payload := range []string{"", "x", "some payload", strings.Repeat("p", 300)} {
		whole := slowPut(api.Datagram{Src: 3, Dst: 4, Payload: payload}, plainSum)
		for said := range 65536 {
			b := saying(whole, said)
			if said != len(whole) {
				mustRefuse(t, "says another", b, api.ErrLength)
			} else if e := mustGet(t, b); e != api.OK {
				t.Errorf("payload of %d: %v", len(payload), e)
			}
		}
	}
}

// P8.1: what is said is of all bytes, not of the payload alone.
func TestGetSaysThePayloadsLength(t *testing.T) {
	for n := range 300 {
		whole := slowPut(api.Datagram{Payload: strings.Repeat("p", n)}, plainSum)
		mustRefuse(t, "says the payload's", saying(whole, n), api.ErrLength)
	}
}

// P8.1: just 65535 bytes are taken; more can't be said, not even by their lowest two bytes.
func TestGetAtTheGreatestLength(t *testing.T) {
	payload := strings.Repeat("p", 65527)
	whole := "\x00\x01\x00\x02\xff\xff\x00\x03" + payload
	want := api.Datagram{Src: 1, Dst: 2, Payload: payload}
	if d, sum, e := udp.Get(whole); d != want || sum != 3 || e != api.OK {
		t.Errorf("%s, %d, %v", told(d), sum, e)
	}
	for _, more := range []int{1, 2, 8, 9, 65535, 65536, 65537} {
		long := whole + strings.Repeat("p", more)
		mustRefuse(t, "says 65535", long, api.ErrLength)
		mustRefuse(t, "says the lowest two bytes", saying(long, len(long)%65536), api.ErrLength)
	}
}

// P8.1: the sum isn't asked for anything: every one is told as it stands there.
func TestGetEverySum(t *testing.T) {
	whole := slowPut(plain(), 0)
	for sum := range 65536 {
		b := whole[:6] + string([]byte{byte(sum / 256), byte(sum % 256)}) + whole[8:]
		if d, got, e := udp.Get(b); d != plain() || got != sum || e != api.OK {
			t.Fatalf("sum %d: %s, %d, %v", sum, told(d), got, e)
		}
	}
}

// P8.1: every bit of a datagram, turned: of the length it is an error, elsewhere another datagram or sum.
func TestGetEveryBitTurned(t *testing.T) {
	whole := slowPut(plain(), plainSum)
	for at := range whole {
		for bit := range 8 {
			want := api.OK
			if at == 4 || at == 5 {
				want = api.ErrLength
			}
			if e := mustGet(t, withByte(whole, at, whole[at]^1<<bit)); e != want {
				t.Errorf("byte %d, bit %d: %v, want %v", at, bit, e, want)
			}
		}
	}
}

// P8.1: drawn bytes, many of them wrong in one way or another, held against the slow questions.
func TestGetDrawn(t *testing.T) {
	draw := rand.New(rand.NewSource(82))
	seen := map[api.Errno]int{}
	for range 60000 {
		d, sum := drawnDatagram(draw)
		b := slowPut(d, sum)
		for range draw.Intn(3) {
			b = withByte(b, draw.Intn(8), byte(draw.Intn(256)))
		}
		switch draw.Intn(12) {
		case 0:
			b = b[:draw.Intn(len(b)+1)]
		case 1:
			b += drawnText(draw, draw.Intn(9))
		case 2:
			b = drawnText(draw, draw.Intn(20))
		}
		seen[mustGet(t, b)]++
	}
	for _, e := range []api.Errno{api.OK, api.ErrShort, api.ErrLength} {
		if seen[e] < 50 {
			t.Errorf("error %v was met %d times", e, seen[e])
		}
	}
}

// P8.1: the same call answers the same, whatever was called between.
func TestGetTwice(t *testing.T) {
	b := slowPut(plain(), plainSum)
	for range 3 {
		if d, sum, e := udp.Get(b); d != plain() || sum != plainSum || e != api.OK {
			t.Errorf("%s, %d, %v", told(d), sum, e)
		}
		mustRefuse(t, "between", b[:5], api.ErrShort)
		mustRefuse(t, "between", b+"z", api.ErrLength)
	}
}
