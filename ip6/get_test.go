package ip6_test

import (
	"math/rand"
	"strings"
	"testing"

	"palanquin/api"
	"palanquin/ip6"
)

// P6.2: ordinary packets, and the payload's bytes as they are.
func TestGetOrdinary(t *testing.T) {
	const src, dst = "\x20\x01\x0d\xb8\x00\x00\x00\x00\x00\x00\x00\x00\x00\x00\x00\x01", "0123456789abcdef"
	h, payload, e := ip6.Get("\x6b\x81\x23\x45\x00\x04\x06\x40" + src + dst + "w\x00\xffz")
	want := api.Header6{Class: 0xb8, Label: 0x12345, Next: 6, Hops: 64, Src: src, Dst: dst}
	if h != want || payload != "w\x00\xffz" || e != api.OK {
		t.Errorf("%#v %q %v", h, payload, e)
	}
	h, payload, e = ip6.Get("\x60\x00\x00\x00\x00\x00\x3b\xff" + dst + src)
	want = api.Header6{Next: 59, Hops: 255, Src: dst, Dst: src}
	if h != want || payload != "" || e != api.OK {
		t.Errorf("%#v %q %v", h, payload, e)
	}
}

// P6.2: every length below 40, whatever the first byte, and whatever length is said.
func TestGetShort(t *testing.T) {
	whole := slowPut(plain(), "")
	mustRefuse(t, "nothing", "", api.ErrShort)
	for n := range 40 {
		mustRefuse(t, "cut", whole[:n], api.ErrShort)
		mustRefuse(t, "cut, and says more", saying(whole, 0xffff)[:n], api.ErrShort)
		mustRefuse(t, "cut, and says so", saying(whole, n)[:n], api.ErrShort)
		if n > 0 {
			for first := range 256 {
				mustRefuse(t, "first byte", withByte(whole, 0, byte(first))[:n], api.ErrShort)
			}
		}
	}
	if e := mustGet(t, whole); e != api.OK {
		t.Errorf("40 bytes: %v", e)
	}
}

// P6.2: every first byte: its first four bits are the version, its last ones the first of Class.
func TestGetEveryFirstByte(t *testing.T) {
	for _, payload := range []string{"", "payload"} {
		whole := slowPut(plain(), payload)
		for first := range 256 {
			p := withByte(whole, 0, byte(first))
			if first/16 != 6 {
				mustRefuse(t, "first byte", p, api.ErrVersion)
				continue
			}
			want := plain()
			want.Class = first%16*16 + want.Class%16
			if h, got, e := ip6.Get(p); h != want || got != payload || e != api.OK {
				t.Errorf("first byte %#x: %#v %q %v", first, h, got, e)
			}
		}
	}
}

// P6.2: packets with fewer and with more bytes than they say, by one and by many.
func TestGetOtherLengthThanSaid(t *testing.T) {
	whole := slowPut(plain(), "some payload")
	for length := 40; length < len(whole); length++ {
		mustRefuse(t, "fewer", whole[:length], api.ErrLength)
	}
	for _, more := range []int{1, 2, 3, 4, 40, 100, 65535, 65536, 65536 - len(whole), 1 << 17} {
		mustRefuse(t, "more", whole+strings.Repeat("x", more), api.ErrLength)
	}
	for _, payload := range []string{"", "x", "some payload", strings.Repeat("p", 300)} {
		whole := slowPut(plain(), payload)
		for said := range 65536 {
			p := saying(whole, said)
			if said != len(payload) {
				mustRefuse(t, "says another", p, api.ErrLength)
			} else if e := mustGet(t, p); e != api.OK {
				t.Errorf("payload of %d: %v", len(payload), e)
			}
		}
	}
}

// P6.2: just 65535 bytes behind the header are taken; more can't be said, not even by their lowest two bytes.
func TestGetAtTheGreatestLength(t *testing.T) {
	whole := slowPut(plain(), strings.Repeat("p", 65535))
	if h, payload, e := ip6.Get(whole); h != plain() || payload != strings.Repeat("p", 65535) || e != api.OK {
		t.Errorf("%#v, %d bytes, %v", h, len(payload), e)
	}
	mustRefuse(t, "a byte less", whole[:len(whole)-1], api.ErrLength)
	for _, more := range []int{1, 2, 40, 41, 65535, 65536, 65537} {
		long := whole + strings.Repeat("p", more)
		mustRefuse(t, "says 65535", long, api.ErrLength)
		mustRefuse(t, "says the lowest two bytes", saying(long, (len(long)-40)%65536), api.ErrLength)
		mustRefuse(t, "says those of all", saying(long, len(long)%65536), api.ErrLength)
	}
}

// P6.2: what is said is of the payload alone, not of the packet.
func TestGetSaysThePayloadsLength(t *testing.T) {
	for n := range 100 {
		whole := slowPut(plain(), strings.Repeat("p", n))
		mustRefuse(t, "says the packet's", saying(whole, len(whole)), api.ErrLength)
		if e := mustGet(t, whole); e != api.OK {
			t.Errorf("payload of %d: %v", n, e)
		}
	}
}

// P6.2: of several faults the first named one is told.
func TestGetSeveralFaults(t *testing.T) {
	faults := []struct {
		e    api.Errno
		turn func(p string) string
	}{
		{api.ErrLength, func(p string) string { return p + "z" }},
		{api.ErrLength, func(p string) string { return saying(p, 0xffff) }},
		{api.ErrVersion, func(p string) string { return withByte(p, 0, p[0]^0x20) }},
		{api.ErrVersion, func(p string) string { return withByte(p, 0, 0x0f) }},
		{api.ErrShort, func(p string) string { return p[:39] }},
		{api.ErrShort, func(p string) string { return p[:1] }},
		{api.ErrShort, func(p string) string { return "" }},
	}
	for chosen := range 1 << len(faults) {
		p, want := slowPut(plain(), "xy"), api.OK
		// The later named ones come first, so that the last one that is made is the one to be told.
		for i, fault := range faults {
			if chosen>>i&1 == 1 {
				p, want = fault.turn(p), fault.e
			}
		}
		if want == api.OK {
			mustGet(t, p)
		} else {
			mustRefuse(t, "several", p, want)
		}
	}
}

// P6.2: every bit of a packet, turned: of the version and the length it is an error, elsewhere another header or payload.
func TestGetEveryBitTurned(t *testing.T) {
	whole := slowPut(plain(), "payload")
	for at := range whole {
		for bit := range 8 {
			want := api.OK
			switch {
			case at == 0 && bit >= 4:
				want = api.ErrVersion
			case at == 4 || at == 5:
				want = api.ErrLength
			}
			if e := mustGet(t, withByte(whole, at, whole[at]^1<<bit)); e != want {
				t.Errorf("byte %d, bit %d: %v, want %v", at, bit, e, want)
			}
		}
	}
}

// P6.2: Class and Label are got by their own bits, on both sides of a byte's end.
func TestGetClassAndLabel(t *testing.T) {
	whole := slowPut(plain(), "")
	for _, x := range []struct {
		first        string
		class, label int
	}{
		{"\x60\x00\x00\x00", 0, 0},
		{"\x6f\xf0\x00\x00", 0xff, 0},
		{"\x60\x0f\xff\xff", 0, 0xfffff},
		{"\x6f\xff\xff\xff", 0xff, 0xfffff},
		{"\x61\x00\x00\x00", 0x10, 0},
		{"\x60\x10\x00\x00", 0x01, 0},
		{"\x60\x08\x00\x00", 0, 0x80000},
		{"\x60\x01\x00\x00", 0, 0x10000},
		{"\x60\x00\x80\x00", 0, 0x08000},
		{"\x60\x00\x00\x80", 0, 0x00080},
		{"\x68\x18\x01\x01", 0x81, 0x80101},
	} {
		want := plain()
		want.Class, want.Label = x.class, x.label
		if h, payload, e := ip6.Get(x.first + whole[4:]); h != want || payload != "" || e != api.OK {
			t.Errorf("%s: %#v %q %v", shown(x.first), h, payload, e)
		}
	}
}

// P6.2: drawn bytes, most of them wrong in one way or another, held against the slow questions.
func TestGetDrawn(t *testing.T) {
	draw := rand.New(rand.NewSource(62))
	seen := map[api.Errno]int{}
	for range 60000 {
		p := slowPut(drawnHeader(draw), drawnText(draw, draw.Intn(30)))
		for range draw.Intn(3) {
			p = withByte(p, draw.Intn(8), byte(draw.Intn(256)))
		}
		switch draw.Intn(12) {
		case 0:
			p = p[:draw.Intn(len(p)+1)]
		case 1:
			p += drawnText(draw, draw.Intn(9))
		case 2:
			p = drawnText(draw, draw.Intn(90))
		}
		seen[mustGet(t, p)]++
	}
	for _, e := range []api.Errno{api.OK, api.ErrShort, api.ErrVersion, api.ErrLength} {
		if seen[e] < 50 {
			t.Errorf("error %v was met %d times", e, seen[e])
		}
	}
}
