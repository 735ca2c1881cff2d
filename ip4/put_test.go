package ip4_test

import (
	"math"
	"math/rand"
	"strings"
	"testing"

	"palanquin/api"
	"palanquin/ip4"
)

// numbers names the header's numbers, and how great each may be.
func numbers() []struct {
	name string
	most int
	of   func(h *api.Header4) *int
} {
	return []struct {
		name string
		most int
		of   func(h *api.Header4) *int
	}{
		{"TOS", 255, func(h *api.Header4) *int { return &h.TOS }},
		{"TTL", 255, func(h *api.Header4) *int { return &h.TTL }},
		{"Proto", 255, func(h *api.Header4) *int { return &h.Proto }},
		{"ID", 65535, func(h *api.Header4) *int { return &h.ID }},
		{"Offset", 8191, func(h *api.Header4) *int { return &h.Offset }},
	}
}

// texts names its texts.
func texts() []struct {
	name  string
	taken func(n int) bool
	of    func(h *api.Header4) *string
} {
	four := func(n int) bool { return n == 4 }
	return []struct {
		name  string
		taken func(n int) bool
		of    func(h *api.Header4) *string
	}{
		{"Src", four, func(h *api.Header4) *string { return &h.Src }},
		{"Dst", four, func(h *api.Header4) *string { return &h.Dst }},
		{"Options", func(n int) bool { return n <= 40 && n%4 == 0 }, func(h *api.Header4) *string { return &h.Options }},
	}
}

// mustNotBe holds a header that may not be against Check and against Put, with payloads that fit and that don't.
func mustNotBe(t *testing.T, why string, h api.Header4) {
	t.Helper()
	if e := ip4.Check(h); e != api.ErrRange {
		t.Errorf("%s: Check: %v", why, e)
	}
	for _, n := range []int{0, 1, api.MaxPacket, api.MaxPacket + 1, 1 << 18} {
		if p, e := ip4.Put(h, strings.Repeat("x", n)); p != "" || e != api.ErrRange {
			t.Errorf("%s, payload of %d: Put: %d bytes, %v", why, n, len(p), e)
		}
	}
}

// P5.1: each number at its least and greatest, one below, one above, and far off, where it wraps round to one that may be.
func TestNumbersAtTheirEdges(t *testing.T) {
	for _, x := range numbers() {
		for _, n := range []int{0, 1, x.most / 2, x.most - 1, x.most} {
			h := plain()
			*x.of(&h) = n
			mustPut(t, h, "payload")
		}
		for _, n := range []int{-1, x.most + 1, -x.most, -x.most - 1, 2*x.most + 2, 1 << 16, 1 << 31, 1 << 32, 1<<32 + 1, -1 << 32, math.MaxInt, math.MinInt, math.MinInt + 1} {
			h := plain()
			*x.of(&h) = n
			mustNotBe(t, x.name, h)
		}
	}
}

// P5.1: Src, Dst and Options of every length, up to far past what they may have.
func TestTextsOfEveryLength(t *testing.T) {
	for _, x := range texts() {
		lengths := []int{255, 256, 260, 1024, 65536, 65540, 1 << 20}
		for n := range 130 {
			lengths = append(lengths, n)
		}
		for _, n := range lengths {
			h := plain()
			*x.of(&h) = strings.Repeat("\x01", n)
			if x.taken(n) {
				mustPut(t, h, "payload")
			} else {
				mustNotBe(t, x.name, h)
			}
		}
	}
}

// P5.1: the zero header has no addresses, and so may not be; several faults come to the same error.
func TestHeadersWithSeveralFaults(t *testing.T) {
	mustNotBe(t, "zero", api.Header4{})
	draw := rand.New(rand.NewSource(51))
	for range 200 {
		h := drawnHeader(draw)
		for _, x := range numbers() {
			if draw.Intn(3) == 0 {
				*x.of(&h) = x.most + 1 + draw.Intn(1000)
			}
		}
		for _, x := range texts() {
			if draw.Intn(3) == 0 {
				*x.of(&h) = strings.Repeat("x", 41+draw.Intn(40))
			}
		}
		h.TTL = -1 - draw.Intn(1000)
		mustNotBe(t, "several", h)
	}
}

// P5.1: all is least, all is greatest.
func TestHeadersAtAllEdges(t *testing.T) {
	least := api.Header4{Src: "\x00\x00\x00\x00", Dst: "\x00\x00\x00\x00"}
	if p := mustPut(t, least, ""); p != "\x45\x00\x00\x14\x00\x00\x00\x00\x00\x00\xba\xeb\x00\x00\x00\x00\x00\x00\x00\x00" {
		t.Errorf("least: %s", shown(p))
	}
	most := api.Header4{TOS: 255, ID: 65535, Offset: 8191, TTL: 255, Proto: 255, DF: true, MF: true, Src: "\xff\xff\xff\xff", Dst: "\xff\xff\xff\xff", Options: strings.Repeat("\xff", 40)}
	if p := mustPut(t, most, "\xff"); p[:12] != "\x4f\xff\x00\x3d\xff\xff\x7f\xff\xff\xff\x2f\xc4" || p[12:] != strings.Repeat("\xff", 49) {
		t.Errorf("greatest: %s", shown(p))
	}
}

// P5.1: packets that are known byte by byte, the chapter's example among them.
func TestPutKnownPackets(t *testing.T) {
	h := api.Header4{TTL: 64, Proto: api.ProtoUDP, DF: true, Src: "\xc0\xa8\x00\x01", Dst: "\xc0\xa8\x00\xc7"}
	payload := strings.Repeat("u", 0x73-20)
	if p := mustPut(t, h, payload); p != "\x45\x00\x00\x73\x00\x00\x40\x00\x40\x11\xb8\x61\xc0\xa8\x00\x01\xc0\xa8\x00\xc7"+payload {
		t.Errorf("UDP: %s", shown(p))
	}
	if p := mustPut(t, h, ""); len(p) != 20 || p != "\x45\x00\x00\x14\x00\x00\x40\x00\x40\x11\xb8\xc0\xc0\xa8\x00\x01\xc0\xa8\x00\xc7" {
		t.Errorf("without options and payload: %s", shown(p))
	}
	h.DF, h.MF, h.Options = false, true, "\x94\x04\x00\x00"
	if p := mustPut(t, h, "\x00"); p != "\x46\x00\x00\x19\x00\x00\x20\x00\x40\x11\x43\xb7\xc0\xa8\x00\x01\xc0\xa8\x00\xc7\x94\x04\x00\x00\x00" {
		t.Errorf("with options: %s", shown(p))
	}
}

// P5.1: each field has its own place, each flag its own bit.
func TestPlacesOfTheFields(t *testing.T) {
	zero := api.Header4{Src: "\x00\x00\x00\x00", Dst: "\x00\x00\x00\x00"}
	for _, x := range []struct {
		name string
		set  func(h *api.Header4)
		at   int
		want string
	}{
		{"TOS", func(h *api.Header4) { h.TOS = 0xa5 }, 1, "\xa5"},
		{"ID", func(h *api.Header4) { h.ID = 0xa5c3 }, 4, "\xa5\xc3"},
		{"DF", func(h *api.Header4) { h.DF = true }, 6, "\x40\x00"},
		{"MF", func(h *api.Header4) { h.MF = true }, 6, "\x20\x00"},
		{"both", func(h *api.Header4) { h.DF, h.MF = true, true }, 6, "\x60\x00"},
		{"Offset", func(h *api.Header4) { h.Offset = 0x15c3 }, 6, "\x15\xc3"},
		{"Offset at its highest", func(h *api.Header4) { h.Offset = 8191 }, 6, "\x1f\xff"},
		{"TTL", func(h *api.Header4) { h.TTL = 0xa5 }, 8, "\xa5"},
		{"Proto", func(h *api.Header4) { h.Proto = 0xa5 }, 9, "\xa5"},
		{"Src", func(h *api.Header4) { h.Src = "\x00\xff\x80\x01" }, 12, "\x00\xff\x80\x01"},
		{"Dst", func(h *api.Header4) { h.Dst = "\x00\xff\x80\x01" }, 16, "\x00\xff\x80\x01"},
	} {
		h := zero
		x.set(&h)
		without, with := mustPut(t, zero, "x"), mustPut(t, h, "x")
		for i := range without {
			want := without[i]
			if i >= x.at && i < x.at+len(x.want) {
				want = x.want[i-x.at]
			}
			if i != 10 && i != 11 && with[i] != want {
				t.Errorf("%s: byte %d is %#x, want %#x", x.name, i, with[i], want)
			}
		}
	}
}

// P5.1: just 65535 bytes, and more, with options of every length.
func TestPutAtTheGreatestLength(t *testing.T) {
	for options := 0; options <= 40; options += 4 {
		h := plain()
		h.Options = strings.Repeat("\x01", options)
		fits := api.MaxPacket - 20 - options
		for _, n := range []int{fits - 1, fits} {
			if p := mustPut(t, h, strings.Repeat("p", n)); len(p) != 20+options+n {
				t.Errorf("options %d, payload %d: %d bytes", options, n, len(p))
			}
		}
		for _, n := range []int{fits + 1, fits + 2, api.MaxPacket, api.MaxPacket + 1, fits + 65536, 1 << 18} {
			if p, e := ip4.Put(h, strings.Repeat("p", n)); p != "" || e != api.ErrLength {
				t.Errorf("options %d, payload %d: %d bytes, %v", options, n, len(p), e)
			}
		}
		if e := ip4.Check(h); e != api.OK {
			t.Errorf("options %d: Check: %v", options, e)
		}
	}
}

// P5.1: drawn headers and payloads of every length up to some, held against the slow count.
func TestPutDrawn(t *testing.T) {
	draw := rand.New(rand.NewSource(52))
	for n := range 3000 {
		mustPut(t, drawnHeader(draw), drawnText(draw, n%200))
	}
}

// The same call answers the same, whatever was called between.
func TestPutTwice(t *testing.T) {
	first := mustPut(t, plain(), "payload")
	ip4.Put(api.Header4{}, "other")
	ip4.Get("other")
	if again := mustPut(t, plain(), "payload"); again != first {
		t.Errorf("%s, then %s", shown(first), shown(again))
	}
}
