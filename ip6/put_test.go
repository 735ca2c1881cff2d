package ip6_test

import (
	"math"
	"math/rand"
	"strings"
	"testing"

	"palanquin/api"
	"palanquin/ip6"
)

type number struct {
	name string
	most int
	of   func(h *api.Header6) *int
}

// numbers names the header's numbers, and how great each may be.
func numbers() []number {
	return []number{
		{"Class", 255, func(h *api.Header6) *int { return &h.Class }},
		{"Label", 1<<20 - 1, func(h *api.Header6) *int { return &h.Label }},
		{"Next", 255, func(h *api.Header6) *int { return &h.Next }},
		{"Hops", 255, func(h *api.Header6) *int { return &h.Hops }},
	}
}

type text struct {
	name string
	of   func(h *api.Header6) *string
}

// texts names its addresses.
func texts() []text {
	return []text{
		{"Src", func(h *api.Header6) *string { return &h.Src }},
		{"Dst", func(h *api.Header6) *string { return &h.Dst }},
	}
}

// P6.1: each number at its least and greatest, one below, one above, and far off, where it wraps round to one that may be.
func TestNumbersAtTheirEdges(t *testing.T) {
	for _, x := range numbers() {
		for _, n := range []int{0, 1, x.most / 2, x.most - 1, x.most} {
			h := plain()
			*x.of(&h) = n
			mustPut(t, h, "payload")
		}
		for _, n := range []int{-1, x.most + 1, x.most + 2, -x.most, -x.most - 1, 2*x.most + 2, 1 << 28, 1 << 31, 1 << 32, 1<<32 + 1, -1 << 32, math.MaxInt, math.MinInt, math.MinInt + 1} {
			h := plain()
			*x.of(&h) = n
			mustNotBe(t, x.name, h)
		}
	}
}

// P6.1: Src and Dst of every other length, up to far past what they may have.
func TestAddressesOfEveryLength(t *testing.T) {
	lengths := []int{255, 256, 272, 1024, 65536, 65552, 1 << 20}
	for n := range 130 {
		lengths = append(lengths, n)
	}
	for _, x := range texts() {
		for _, n := range lengths {
			h := plain()
			*x.of(&h) = strings.Repeat("\x01", n)
			if n == 16 {
				mustPut(t, h, "payload")
			} else {
				mustNotBe(t, x.name, h)
			}
		}
	}
}

// P6.1: addresses that have 32 bytes together, but not 16 each.
func TestAddressesOfUnlikeLengths(t *testing.T) {
	for n := range 33 {
		h := plain()
		both := h.Src + h.Dst
		h.Src, h.Dst = both[:n], both[n:]
		if n == 16 {
			mustPut(t, h, "")
		} else {
			mustNotBe(t, "unlike", h)
		}
	}
}

// P6.1: the zero header has no addresses, and so may not be; several faults come to the same error.
func TestHeadersWithSeveralFaults(t *testing.T) {
	mustNotBe(t, "zero", api.Header6{})
	for chosen := 1; chosen < 1<<6; chosen++ {
		h := plain()
		for i, x := range numbers() {
			if chosen>>i&1 == 1 {
				*x.of(&h) = x.most + 1
			}
		}
		for i, x := range texts() {
			if chosen>>(4+i)&1 == 1 {
				*x.of(&h) += "\x00"
			}
		}
		mustNotBe(t, "several", h)
	}
}

// P6.1: all is least, all is greatest.
func TestHeadersAtAllEdges(t *testing.T) {
	none, full := strings.Repeat("\x00", 16), strings.Repeat("\xff", 16)
	least := api.Header6{Src: none, Dst: none}
	if p := mustPut(t, least, ""); p != "\x60"+strings.Repeat("\x00", 39) {
		t.Errorf("least: %s", shown(p))
	}
	most := api.Header6{Class: 255, Label: 1<<20 - 1, Next: 255, Hops: 255, Src: full, Dst: full}
	if p := mustPut(t, most, "\xff"); p != "\x6f\xff\xff\xff\x00\x01\xff\xff"+full+full+"\xff" {
		t.Errorf("greatest: %s", shown(p))
	}
}

// P6.1: packets that are known byte by byte, the chapter's example among them.
func TestPutKnownPackets(t *testing.T) {
	h := api.Header6{Next: api.ProtoUDP, Hops: 64, Src: strings.Repeat("\x00", 15) + "\x01", Dst: "\xff\x02" + strings.Repeat("\x00", 13) + "\x02"}
	if p := mustPut(t, h, ""); len(p) != 40 || p != "\x60\x00\x00\x00\x00\x00\x11\x40"+h.Src+h.Dst {
		t.Errorf("without payload: %s", shown(p))
	}
	h.Class, h.Label, h.Next = 0xb8, 0x12345, api.ProtoTCP
	payload := strings.Repeat("t", 0x0102)
	if p := mustPut(t, h, payload); p != "\x6b\x81\x23\x45\x01\x02\x06\x40"+h.Src+h.Dst+payload {
		t.Errorf("with payload: %s", shown(p))
	}
}

// P6.1: each field has its own place, to a bit, and Class and Label stand on both sides of a byte's end.
func TestPlacesOfTheFields(t *testing.T) {
	zero := api.Header6{Src: strings.Repeat("\x00", 16), Dst: strings.Repeat("\x00", 16)}
	bare := mustPut(t, zero, "x")
	for _, x := range []struct {
		name  string
		first int // the place of its highest bit, counted from the packet's front
		bits  int
		of    func(h *api.Header6) *int
	}{
		{"Class", 4, 8, func(h *api.Header6) *int { return &h.Class }},
		{"Label", 12, 20, func(h *api.Header6) *int { return &h.Label }},
		{"Next", 48, 8, func(h *api.Header6) *int { return &h.Next }},
		{"Hops", 56, 8, func(h *api.Header6) *int { return &h.Hops }},
	} {
		for bit := range x.bits {
			h := zero
			*x.of(&h) = 1 << (x.bits - 1 - bit)
			place := x.first + bit
			want := withByte(bare, place/8, bare[place/8]|0x80>>(place%8))
			if p := mustPut(t, h, "x"); p != want {
				t.Errorf("%s, bit %d: %s, want %s", x.name, bit, shown(p), shown(want))
			}
		}
	}
	for i := range 16 {
		h := zero
		h.Src, h.Dst = withByte(h.Src, i, 0xa5), withByte(h.Dst, i, 0x5a)
		if p, want := mustPut(t, h, "x"), withByte(withByte(bare, 8+i, 0xa5), 24+i, 0x5a); p != want {
			t.Errorf("addresses, byte %d: %s, want %s", i, shown(p), shown(want))
		}
	}
}

// P6.1: payloads of every number of bytes that may be told by one byte, and of just 65535, and of more.
func TestPayloadsOfEveryLength(t *testing.T) {
	lengths := []int{4095, 4096, 65494, 65495, 65496, 65534, 65535}
	for n := range 600 {
		lengths = append(lengths, n)
	}
	for _, n := range lengths {
		if p := mustPut(t, plain(), strings.Repeat("p", n)); len(p) != 40+n {
			t.Errorf("payload of %d: %d bytes", n, len(p))
		}
	}
	for _, n := range []int{65536, 65537, 65575, 65576, 1<<17 - 1, 1 << 17, 1<<17 + 1, 1 << 20} {
		if p, e := ip6.Put(plain(), strings.Repeat("p", n)); p != "" || e != api.ErrLength {
			t.Errorf("payload of %d: %d bytes, %v", n, len(p), e)
		}
	}
}

// P6.1: drawn headers and payloads of every length up to some, held against the slow count.
func TestPutDrawn(t *testing.T) {
	draw := rand.New(rand.NewSource(61))
	for n := range 3000 {
		mustPut(t, drawnHeader(draw), drawnText(draw, n%200))
	}
}

// P6.1: the same call answers the same, whatever was called between.
func TestPutTwice(t *testing.T) {
	first := mustPut(t, plain(), "payload")
	ip6.Put(api.Header6{}, "other")
	ip6.Get("other")
	if again := mustPut(t, plain(), "payload"); again != first {
		t.Errorf("%s, then %s", shown(first), shown(again))
	}
}
