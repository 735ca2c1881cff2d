package frag_test

import (
	"math"
	"math/rand"
	"strings"
	"testing"

	"palanquin/api"
	"palanquin/frag"
	"palanquin/ip4"
)

// Headers that are known byte by byte, and what stands behind them.
const (
	whole  = "\x45\x00\x00\x78\x12\x34\x00\x00\x40\x11\x54\x3f\x0a\x00\x00\x01\x0a\x00\x00\x02"
	whole1 = "\x45\x00\x00\x3c\x12\x34\x20\x00\x40\x11\x34\x7b\x0a\x00\x00\x01\x0a\x00\x00\x02"
	whole2 = "\x45\x00\x00\x3c\x12\x34\x20\x05\x40\x11\x34\x76\x0a\x00\x00\x01\x0a\x00\x00\x02"
	whole3 = "\x45\x00\x00\x28\x12\x34\x00\x0a\x40\x11\x54\x85\x0a\x00\x00\x01\x0a\x00\x00\x02"

	// One that is itself a piece, with Options.
	piece  = "\x46\x00\x00\x39\x12\x34\x20\x64\x40\x11\x9f\x15\x0a\x00\x00\x01\x0a\x00\x00\x02\x94\x04\x00\x00"
	piece1 = "\x46\x00\x00\x28\x12\x34\x20\x64\x40\x11\x9f\x26\x0a\x00\x00\x01\x0a\x00\x00\x02\x94\x04\x00\x00"
	piece2 = "\x46\x00\x00\x28\x12\x34\x20\x66\x40\x11\x9f\x24\x0a\x00\x00\x01\x0a\x00\x00\x02\x94\x04\x00\x00"
	piece3 = "\x46\x00\x00\x19\x12\x34\x20\x68\x40\x11\x9f\x31\x0a\x00\x00\x01\x0a\x00\x00\x02\x94\x04\x00\x00"
)

// P15.2: the chapter's example, byte by byte, and a piece with Options that is cut again.
func TestCutKnown(t *testing.T) {
	a := counted(100)
	for _, x := range []struct {
		p    string
		mtu  int
		want []string
	}{
		{whole + a, 60, []string{whole1 + a[:40], whole2 + a[40:80], whole3 + a[80:]}},
		{whole + a, 67, []string{whole1 + a[:40], whole2 + a[40:80], whole3 + a[80:]}},
		{piece + a[:33], 40, []string{piece1 + a[:16], piece2 + a[16:32], piece3 + a[32:33]}},
		{piece + a[:33], 47, []string{piece1 + a[:16], piece2 + a[16:32], piece3 + a[32:33]}},
		{whole + a, 120, []string{whole + a}},
		{piece + a[:33], 57, []string{piece + a[:33]}},
	} {
		list, e := frag.Cut(x.p, x.mtu)
		if strings.Join(list, "|") != strings.Join(x.want, "|") || len(list) != len(x.want) || e != api.OK {
			t.Errorf("Cut(%s, %d): %x, %v; want %x", shown(x.p), x.mtu, list, e, x.want)
		}
	}
}

// P15.2: how many bytes the pieces have: payloads of a multiple of 8 bytes, and of a byte more and less.
func TestCutSizes(t *testing.T) {
	for _, x := range []struct {
		options, payload, mtu int
		sizes                 []int
	}{
		{0, 100, 60, []int{40, 40, 20}},
		{0, 80, 60, []int{40, 40}},
		{0, 79, 60, []int{40, 39}},
		{0, 81, 60, []int{40, 40, 1}},
		{0, 119, 60, []int{40, 40, 39}},
		{0, 120, 60, []int{40, 40, 40}},
		{0, 121, 60, []int{40, 40, 40, 1}},
		{0, 9, 28, []int{8, 1}},
		{0, 16, 28, []int{8, 8}},
		{0, 17, 28, []int{8, 8, 1}},
		{0, 17, 35, []int{8, 8, 1}},
		{0, 17, 36, []int{16, 1}},
		{0, 16, 35, []int{8, 8}},
		{0, 16, 36, []int{16}},
		// The last one has not more than the others, though a byte more would fit.
		{0, 95, 67, []int{40, 40, 15}},
		{0, 87, 67, []int{40, 40, 7}},
		{0, 47, 67, []int{47}},
		{0, 48, 67, []int{40, 8}},
		{4, 50, 47, []int{16, 16, 16, 2}},
		{40, 33, 92, []int{32, 1}},
		{40, 32, 92, []int{32}},
		{40, 31, 90, []int{24, 7}},
		{40, 9, 68, []int{8, 1}},
		{40, 8, 68, []int{8}},
		{0, 1008, 576, []int{552, 456}},
		{0, 1480, 1500, []int{1480}},
		{0, 1481, 1500, []int{1480, 1}},
		{0, 65515, 65535, []int{65515}},
		{0, 65515, 65534, []int{65512, 3}},
		{0, 65513, 65532, []int{65512, 1}},
		{0, 65512, 65531, []int{65504, 8}},
		{40, 65475, 65534, []int{65472, 3}},
		{40, 65475, 32800, []int{32736, 32736, 3}},
	} {
		mustHave(t, plain(x.options, x.payload).text(), x.mtu, x.sizes...)
	}
}

// P15.2: packets of few bytes, with Options and without, whole ones and pieces, by every small mtu.
func TestCutEverySmall(t *testing.T) {
	for _, options := range []int{0, 4, 20, 40} {
		for payload := range 67 {
			for _, m := range alike(plain(options, payload)) {
				p := m.text()
				for mtu := 26; mtu <= len(p)+2; mtu++ {
					mustAnswer(t, p, mtu)
				}
			}
		}
	}
}

// alike are the packet, and it as a piece: the first, the last, and one between.
func alike(m made) []made {
	list := []made{m, m, m, m}
	list[1].mf = true
	list[2].offset = 300
	list[3].mf, list[3].offset = true, 8180
	return list
}

// P15.2: packets of many bytes, by mtus of every size.
func TestCutGreat(t *testing.T) {
	for _, options := range []int{0, 4, 36, 40} {
		for _, payload := range []int{1480, 9000, 65536 - 64, 65535 - 20 - options} {
			p := plain(options, payload).text()
			for _, mtu := range []int{
				28, 29, 35, 36, 47, 67, 68, 69, 75, 76, 100, 575, 576, 577, 1279, 1280, 1499, 1500, 1501, 8999, 9000, 32767, 32768, 65531, 65532,
				65533, 65534, 65535, len(p) - 9, len(p) - 8, len(p) - 7, len(p) - 1, len(p),
			} {
				mustAnswer(t, p, mtu)
			}
		}
	}
}

// P15.2: drawn packets, by drawn mtus.
func TestCutDrawn(t *testing.T) {
	draw := rand.New(rand.NewSource(152))
	for range 20000 {
		m := drawnPacket(draw, 1<<draw.Intn(12))
		m.df = draw.Intn(8) == 0
		p := m.text()
		mustAnswer(t, p, 28+draw.Intn(len(p)+10))
	}
	for range 300 {
		m := drawnPacket(draw, 65475)
		p := m.text()
		mustAnswer(t, p, 28+draw.Intn(65508))
	}
}

// P15.2: a packet of no more bytes than the mtu stays, whatever it has; one of a byte more doesn't.
func TestCutFits(t *testing.T) {
	for _, options := range []int{0, 4, 40} {
		for _, payload := range []int{8, 9, 15, 16, 17, 100, 1480, 65475} {
			for _, m := range alike(plain(options, payload)) {
				p := m.text()
				mustStay(t, "just as many", p, len(p))
				mustStay(t, "one less", p, min(len(p)+1, 65535))
				mustStay(t, "many less", p, 65535)
				if list, e := mustAnswer(t, p, len(p)-1); e == api.OK && len(list) != 2 {
					t.Errorf("Cut(%s, %d): %d pieces", shown(p), len(p)-1, len(list))
				}
			}
		}
	}
}

// P15.2: a packet without payload stays, by every mtu from 28 on; where its header has more bytes than the mtu, there is no room for it.
func TestCutNoPayload(t *testing.T) {
	for options := 0; options <= 40; options += 4 {
		for _, m := range alike(plain(options, 0)) {
			p := m.text()
			for mtu := 28; mtu < 100; mtu++ {
				if len(p) <= mtu {
					mustStay(t, "no payload", p, mtu)
				} else {
					mustRefuse(t, "no payload, no room", p, mtu, api.ErrRange)
				}
			}
		}
	}
}

// P15.2: DF: with a packet that fits it's no fault, with one that doesn't it is.
func TestCutDF(t *testing.T) {
	for _, options := range []int{0, 4, 40} {
		for _, payload := range []int{9, 10, 100, 1480, 65475} {
			for _, m := range alike(plain(options, payload)) {
				m.df = true
				p := m.text()
				mustStay(t, "DF, just as many", p, len(p))
				mustStay(t, "DF, great mtu", p, 65535)
				mustRefuse(t, "DF, one more", p, len(p)-1, api.ErrBig)
				mustRefuse(t, "DF, small mtu", p, 28, api.ErrBig)
				mustRefuse(t, "DF, no mtu", p, 27, api.ErrRange)
			}
		}
	}
}

// P15.2: the edges of the mtu, with packets of few bytes and of many.
func TestCutMTU(t *testing.T) {
	for _, m := range []made{plain(0, 0), plain(0, 8), plain(0, 9), plain(0, 1480), plain(40, 0), plain(40, 100), plain(0, 65515), plain(40, 65475)} {
		p := m.text()
		for _, mtu := range []int{
			27, 26, 20, 19, 8, 1, 0, -1, -28, -100, -65535, 65536, 65537, 65536 + 28, 65536 + 1500, 1 << 20, 1 << 31, 1 << 32, 1<<32 + 1500, -1 << 32,
			1 << 40, math.MaxInt, math.MinInt, math.MinInt + 28,
		} {
			mustRefuse(t, "no mtu", p, mtu, api.ErrRange)
		}
		mustAnswer(t, p, 28)
		mustStay(t, "greatest mtu", p, 65535)
	}
	mustHave(t, plain(0, 9).text(), 28, 8, 1)
}

// P15.2: Options for which no 8 bytes of payload are left.
func TestCutNoRoom(t *testing.T) {
	for options := 0; options <= 40; options += 4 {
		for _, m := range alike(plain(options, 60)) {
			m.offset = min(m.offset, 4000)
			p := m.text()
			for mtu := 28; mtu < len(p); mtu++ {
				if mtu < 20+options+8 {
					mustRefuse(t, "no room", p, mtu, api.ErrRange)
				} else {
					mustCut(t, p, mtu)
				}
			}
		}
	}
}

// P15.2: the last piece's Offset is 8191, or above; it's the last one's that counts, not the end of its bytes.
func TestCutOffset(t *testing.T) {
	for _, x := range []struct {
		options, payload, offset, mtu int
		e                             api.Errno
	}{
		{0, 16, 8190, 28, api.OK},
		{0, 9, 8190, 28, api.OK},
		{0, 16, 8191, 28, api.ErrLength},
		{0, 9, 8191, 28, api.ErrLength},
		{0, 17, 8190, 28, api.ErrLength},
		{0, 17, 8189, 28, api.OK},
		{0, 100, 8181, 60, api.OK},
		{0, 100, 8182, 60, api.ErrLength},
		{0, 80, 8186, 60, api.OK},
		{0, 81, 8186, 60, api.ErrLength},
		{0, 80, 8187, 60, api.ErrLength},
		{40, 80, 8186, 100, api.OK},
		{40, 80, 8187, 100, api.ErrLength},
		{0, 65515, 2, 65534, api.OK},
		{0, 65515, 3, 65534, api.ErrLength},
		{0, 65515, 2, 28, api.OK},
		{0, 65515, 3, 28, api.ErrLength},
		{0, 65515, 0, 28, api.OK},
		{40, 65475, 7, 68, api.OK},
		{40, 65475, 8, 68, api.ErrLength},
		{0, 65515, 8191, 65535, api.OK},
		{0, 8, 8191, 28, api.OK},
	} {
		for _, mf := range []bool{false, true} {
			m := plain(x.options, x.payload)
			m.offset, m.mf = x.offset, mf
			if _, e := mustAnswer(t, m.text(), x.mtu); e != x.e {
				t.Errorf("%+v, MF %v: %v", x, mf, e)
			}
			if x.e != api.OK {
				mustRefuse(t, "Offset", m.text(), x.mtu, x.e)
			}
		}
	}
}

// P15.2: where the last piece's Offset is 8191, and where it would be 8192, of every number of pieces.
func TestCutOffsetEvery(t *testing.T) {
	for pieces := 2; pieces < 100; pieces++ {
		m := plain(0, 24*(pieces-1)+1)
		m.offset = 8191 - 3*(pieces-1)
		list := mustCut(t, m.text(), 44)
		if last := list[len(list)-1]; len(list) != pieces || offset(last) != 8191 || len(last) != 21 {
			t.Fatalf("%d pieces: %d, the last one's Offset %d", pieces, len(list), offset(last))
		}
		m.offset++
		mustRefuse(t, "Offset 8192", m.text(), 44, api.ErrLength)
	}
}

// P15.2: a packet that is itself a piece: the Offsets go on from its own, and the last one's MF is its own.
func TestCutPieces(t *testing.T) {
	for _, place := range []int{0, 1, 2, 31, 255, 256, 4095, 4096, 8000} {
		for _, mf := range []bool{false, true} {
			m := plain(8, 1000)
			m.offset, m.mf = place, mf
			list := mustCut(t, m.text(), 100)
			for i, p := range list {
				if offset(p) != place+9*i || more(p) != (mf || i < len(list)-1) {
					t.Errorf("Offset %d, MF %v: piece %d has Offset %d, MF %v", place, mf, i, offset(p), more(p))
				}
			}
			if len(list) != 14 {
				t.Errorf("Offset %d, MF %v: %d pieces", place, mf, len(list))
			}
		}
	}
}

// P15.2: pieces are packets of layer 5, with the packet's header but for Offset and MF.
func TestCutHeaders(t *testing.T) {
	draw := rand.New(rand.NewSource(153))
	for range 3000 {
		p := drawnPacket(draw, 600).text()
		h, payload, e := ip4.Get(p)
		if e != api.OK {
			t.Fatal(shown(p), e)
		}
		mtu := 68 + draw.Intn(200)
		list := mustCut(t, p, mtu)
		ahead := 0
		for i, piece := range list {
			got, part, e := ip4.Get(piece)
			want := h
			want.Offset, want.MF = h.Offset+ahead/8, h.MF || i < len(list)-1
			if got != want || part != payload[ahead:ahead+len(part)] || e != api.OK {
				t.Fatalf("Cut(%s, %d): piece %d is %+v, %s, %v; want %+v", shown(p), mtu, i, got, shown(part), e, want)
			}
			if i < len(list)-1 && len(part) != frag.Part(header(p), mtu) {
				t.Fatalf("Cut(%s, %d): piece %d has %d bytes", shown(p), mtu, i, len(part))
			}
			ahead += len(part)
		}
	}
}

// P15.2: a packet of a sum FFFF stays as it is, if it fits; its pieces have the sums that layer 5 counts.
func TestCutSumFFFF(t *testing.T) {
	m := plain(0, 100)
	m.src, m.dst = "\x00\x00\x00\x00", "\x00\x00\x00\x00"
	for id := range 65536 {
		m.id = id
		if p := m.text(); p[10] == 0 && p[11] == 0 {
			break
		}
	}
	p := m.text()
	p = p[:10] + "\xff\xff" + p[12:]
	if _, _, e := ip4.Get(p); e != api.OK || slowGet(p) != api.OK {
		t.Fatal(shown(p), e)
	}
	mustStay(t, "sum FFFF", p, 120)
	mustHave(t, p, 60, 40, 40, 20)
}

// P15.2: the same call twice answers the same, and lists that share nothing.
func TestCutTwice(t *testing.T) {
	for _, mtu := range []int{28, 60, 119, 120, 65535} {
		p := plain(0, 100).text()
		first := mustCut(t, p, mtu)
		for i := range first {
			first[i] = "other"
		}
		_ = append(first[:0], "another")
		mustCut(t, p, mtu)
	}
}
