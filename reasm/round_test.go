package reasm_test

import (
	"math/rand"
	"testing"

	"palanquin/api"
)

// P16.3: packets of every small number of bytes, by every mtu that has room: in order, backwards, and with each doubled.
func TestRoundEverySmall(t *testing.T) {
	for _, options := range []int{0, 12, 40} {
		for payload := range 70 {
			p := plain(options, payload).text()
			for mtu := 28 + options; mtu <= len(p)+1; mtu++ {
				list := mustCut(t, p, mtu)
				for _, order := range [][]string{list, backwards(list), doubled(list, -1), doubled(backwards(list), -1), append(list, list...)} {
					hold(t, 1, payload+1, 1).mustMakeOnce(p, order)
				}
			}
		}
	}
}

// P16.3: in every order, with each choice of what is doubled, at once or behind all.
func TestRoundEveryOrder(t *testing.T) {
	for _, x := range []struct{ options, payload, mtu int }{{0, 9, 28}, {0, 40, 36}, {4, 33, 40}, {40, 80, 76}, {0, 100, 44}} {
		p := plain(x.options, x.payload).text()
		list := mustCut(t, p, x.mtu)
		for _, order := range orders(len(list)) {
			mixed := chosen(list, order)
			for twice := range 1 << len(list) {
				hold(t, 1, x.payload, 1).mustMakeOnce(p, doubled(mixed, twice))
			}
			hold(t, 1, x.payload, 1).mustMakeOnce(p, append(mixed, list...))
			hold(t, 1, x.payload, 1).mustMakeOnce(p, append(mixed[:len(mixed)-1:len(mixed)-1], mixed...))
		}
	}
}

// P16.3: packets of many bytes, with Options and without, by small mtus and great ones.
func TestRoundGreat(t *testing.T) {
	draw := rand.New(rand.NewSource(164))
	for _, options := range []int{0, 4, 40} {
		for _, payload := range []int{1480, 9000, 65515 - options} {
			p := plain(options, payload).text()
			for _, mtu := range []int{28 + options, 68, 300, 576, 1280, 1500, 9000, 32768, 65534, 65535} {
				if payload > 9000 && mtu < 300 {
					continue // TestRoundMostPieces has it
				}
				list := mustCut(t, p, mtu)
				for _, order := range [][]string{list, backwards(list), shuffled(draw, list), shuffled(draw, doubled(list, -1)), append(shuffled(draw, list), list...)} {
					hold(t, 1, 65515, 1).mustMakeOnce(p, order)
				}
			}
		}
	}
}

// P16.3: as many pieces as a packet may have.
func TestRoundMostPieces(t *testing.T) {
	draw := rand.New(rand.NewSource(165))
	p := plain(0, 65515).text()
	list := mustCut(t, p, 28)
	for _, order := range [][]string{list, backwards(list), shuffled(draw, doubled(list, draw.Int()))} {
		hold(t, 1, 65515, 1).mustMakeOnce(p, order)
	}
}

// P16.3: drawn packets, cut by drawn mtus, and now and then cut again, in drawn orders.
func TestRoundDrawn(t *testing.T) {
	draw := rand.New(rand.NewSource(166))
	for range 3000 {
		m := drawnPacket(draw, 1<<draw.Intn(13))
		p := m.text()
		var list []string
		for _, piece := range mustCut(t, p, min(68+draw.Intn(len(p)), 65535)) {
			if draw.Intn(3) == 0 {
				list = append(list, mustCut(t, piece, 68+draw.Intn(len(p)))...)
			} else {
				list = append(list, piece)
			}
		}
		hold(t, 1+draw.Intn(64), len(m.payload)+1, 1+draw.Intn(64)).mustMakeOnce(p, shuffled(draw, doubled(list, draw.Int())))
	}
}

// P16.3: pieces of many packets among one another: each is made just once, as it was.
func TestRoundTogether(t *testing.T) {
	draw := rand.New(rand.NewSource(167))
	for range 60 {
		packets, mixed := drawnTogether(draw, t, 64)
		h := hold(t, len(packets), 1<<20, 1)
		told := map[string]int{}
		for _, piece := range mixed {
			if p, e := h.add(piece); e == api.OK {
				told[p]++
			} else if e != api.ErrMore && e != api.ErrTwice {
				t.Fatalf("Add(%s): %v", shown(piece), e)
			}
		}
		for _, p := range packets {
			if told[p] != 1 {
				t.Fatalf("%s: made %d times", shown(p), told[p])
			}
		}
		if len(told) != len(packets) {
			t.Fatalf("%d packets of %d", len(told), len(packets))
		}
		h.mustCount("all are done", len(packets), 0, 0)
	}
}

// P0.4 and P16.3: what's lost, late or strange disturbs no other packet: those of which all comes are made once, as they were.
func TestRoundAmongStrange(t *testing.T) {
	draw := rand.New(rand.NewSource(168))
	for range 60 {
		packets, mixed := drawnTogether(draw, t, 32)
		strange := func() string {
			m := drawnPacket(draw, 100)
			m.offset, m.mf = draw.Intn(8192), draw.Intn(2) == 1
			if draw.Intn(2) == 0 {
				return m.text()[:draw.Intn(len(m.text()))]
			}
			return m.text()
		}
		h := hold(t, 64, 1<<20, 1)
		told := map[string]int{}
		for i, piece := range mixed {
			if i%(len(mixed)/30+1) == 0 {
				h.add(strange())
			}
			if p, e := h.add(piece); e == api.OK {
				told[p]++
			}
		}
		for _, p := range packets {
			if told[p] != 1 {
				t.Fatalf("%s: made %d times", shown(p), told[p])
			}
		}
	}
}

// P16.3: without room for all of them, or with ticks between, a packet is made as it was, or not at all.
func TestRoundNoRoom(t *testing.T) {
	draw := rand.New(rand.NewSource(169))
	made, full := 0, 0
	for range 200 {
		packets, mixed := drawnTogether(draw, t, 16)
		is := map[string]bool{}
		for _, p := range packets {
			is[p] = true
		}
		h := hold(t, 1+draw.Intn(16), 1+draw.Intn(8000), 1+draw.Intn(8))
		for _, piece := range mixed {
			if draw.Intn(50) == 0 {
				h.tick()
			}
			p, e := h.add(piece)
			if e == api.OK && !is[p] {
				t.Fatalf("Add(%s): %s", shown(piece), shown(p))
			}
			made, full = made+bit(e == api.OK), full+bit(e == api.ErrFull)
		}
	}
	if made < 100 || full < 100 {
		t.Errorf("%d made, ErrFull %d times", made, full)
	}
}

// drawnTogether are packets of as many keys, which differ in one thing alone, and their pieces, doubled now and then, in a drawn order.
func drawnTogether(draw *rand.Rand, t *testing.T, n int) (packets, mixed []string) {
	base := drawnPacket(draw, 0)
	for i := range n {
		m := drawnPacket(draw, 1<<draw.Intn(12))
		m.src, m.dst, m.proto, m.id = base.src, base.dst, base.proto, base.id
		switch i % 4 {
		case 0:
			m.id = (m.id + i) % 65536
		case 1:
			m.proto = (m.proto + i) % 256
		case 2:
			m.src = m.src[:3] + byteText(int(m.src[3])+i)
		case 3:
			m.dst = byteText(int(m.dst[0])+i) + m.dst[1:]
		}
		p := m.text()
		packets = append(packets, p)
		mixed = append(mixed, doubled(mustCut(t, p, 68+draw.Intn(1000)), draw.Int())...)
	}
	return packets, shuffled(draw, mixed)
}
