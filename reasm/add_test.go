package reasm_test

import (
	"math/rand"
	"testing"
	"unsafe"

	"palanquin/api"
)

// Headers that are known byte by byte: of 100 bytes of payload, and of two pieces of it.
const (
	whole  = "\x45\x00\x00\x78\x12\x34\x00\x00\x40\x11\x54\x3f\x0a\x00\x00\x01\x0a\x00\x00\x02"
	whole1 = "\x45\x00\x00\x64\x12\x34\x20\x00\x40\x11\x34\x53\x0a\x00\x00\x01\x0a\x00\x00\x02"
	whole2 = "\x45\x00\x00\x28\x12\x34\x00\x0a\x40\x11\x54\x85\x0a\x00\x00\x01\x0a\x00\x00\x02"

	// Of 33 bytes, and of three pieces that differ in all that the key doesn't hold.
	mixed  = "\x46\x08\x00\x39\x12\x34\x40\x00\x40\x11\x7f\x71\x0a\x00\x00\x01\x0a\x00\x00\x02\x94\x04\x00\x00"
	mixed1 = "\x46\x08\x00\x28\x12\x34\x60\x00\x40\x11\x5f\x82\x0a\x00\x00\x01\x0a\x00\x00\x02\x94\x04\x00\x00"
	mixed2 = "\x45\x00\x00\x24\x12\x34\x20\x02\x3f\x11\x35\x91\x0a\x00\x00\x01\x0a\x00\x00\x02"
	mixed3 = "\x47\x07\x00\x1d\x12\x34\x00\x04\x3e\x11\x2c\x86\x0a\x00\x00\x01\x0a\x00\x00\x02\x94\x04\x00\x00\x94\x04\x00\x00"
)

// P16.1: the chapter's example, byte by byte: two pieces, the second one first, and either one again.
func TestAddExample(t *testing.T) {
	a := counted(100)
	h := hold(t, 1, 100, 1)
	h.mustRefuse("no packet", "", api.ErrShort)
	if p, e := h.add(whole2 + a[80:]); p != "" || e != api.ErrMore {
		t.Fatalf("the second: %s, %v", shown(p), e)
	}
	h.mustCount("the second", 1, 1, 20)
	h.mustMake("the first", whole1+a[:80], whole+a)
	h.mustCount("the first", 1, 0, 0)
	h.mustRefuse("the second again", whole2+a[80:], api.ErrTwice)
	h.mustRefuse("the first again", whole1+a[:80], api.ErrTwice)
	h.mustRefuse("the packet itself", whole+a, api.ErrTwice)
}

// P16.1: pieces whose other fields differ, in every order: the header is that of the piece from 0 on, byte by byte.
func TestAddMixedKnown(t *testing.T) {
	a := counted(33)
	list := []string{mixed1 + a[:16], mixed2 + a[16:32], mixed3 + a[32:]}
	for _, order := range orders(3) {
		h := holdGreat(t)
		h.mustMakeOnce(mixed+a, chosen(list, order))
	}
}

// P16.1: a packet that isn't a piece is told at once, whatever it has.
func TestAddNoPiece(t *testing.T) {
	for _, options := range []int{0, 4, 20, 40} {
		for _, payload := range []int{0, 1, 7, 8, 9, 15, 16, 100, 1480, 65515 - options} {
			for _, df := range []bool{false, true} {
				h := hold(t, 1, 1<<20, 1)
				m := plain(options, payload)
				m.df = df
				h.mustMake("no piece", m.text(), m.text())
				h.mustCount("no piece", 1, 0, 0)
				h.mustRefuse("again", m.text(), api.ErrTwice)
			}
		}
	}
}

// P16.1: a packet is put as layer 5 puts it, so that its sum isn't FFFF, which is taken all the same.
func TestAddSumFFFF(t *testing.T) {
	m := plain(0, 0)
	m.src, m.dst = "\x00\x00\x00\x00", "\x00\x00\x00\x00"
	for m.text()[10:12] != "\x00\x00" {
		m.id++
	}
	p := m.text()
	h := holdGreat(t)
	h.mustMake("sum FFFF", p[:10]+"\xff\xff"+p[12:], p)
}

// P16.1: keys that differ in one thing alone have an entry each.
func TestAddKeys(t *testing.T) {
	for _, x := range []struct {
		name  string
		other func(m *made)
	}{
		{"Src's first byte", func(m *made) { m.src = "\x0b" + m.src[1:] }},
		{"Src's last byte", func(m *made) { m.src = m.src[:3] + "\x04" }},
		{"Dst's first byte", func(m *made) { m.dst = "\xc1" + m.dst[1:] }},
		{"Dst's last byte", func(m *made) { m.dst = m.dst[:3] + "\x05" }},
		{"Src and Dst", func(m *made) { m.src, m.dst = m.dst, m.src }},
		{"Proto", func(m *made) { m.proto ^= 1 }},
		{"Proto's highest bit", func(m *made) { m.proto ^= 128 }},
		{"ID", func(m *made) { m.id ^= 1 }},
		{"ID's highest bit", func(m *made) { m.id ^= 32768 }},
		{"Proto and ID", func(m *made) { m.proto, m.id = m.id%256, m.proto }},
	} {
		h := holdGreat(t)
		front, back := part(0, 16, true), part(16, 5, false)
		front2, back2 := front, back
		x.other(&front2)
		x.other(&back2)
		front2.payload = front.payload[:15] + "x"
		packet, packet2 := plain(0, 21), front2
		packet2.mf, packet2.payload = false, front2.payload+back2.payload
		h.mustTake(x.name, front, front2)
		h.mustCount(x.name, 2, 2, 32)
		h.mustMake(x.name, back.text(), packet.text())
		h.mustCount(x.name, 2, 1, 16)
		h.mustMake(x.name, back2.text(), packet2.text())
		h.mustCount(x.name, 2, 0, 0)
	}
}

// P16.1: whatever else of a header differs, it's one key; the header is that of the piece from 0 on.
func TestAddOneKey(t *testing.T) {
	for _, x := range []struct {
		name  string
		other func(m *made)
	}{
		{"TOS", func(m *made) { m.tos ^= 255 }},
		{"TTL", func(m *made) { m.ttl ^= 1 }},
		{"DF", func(m *made) { m.df = !m.df }},
		{"Options", func(m *made) { m.options = counted(40) }},
		{"no Options", func(m *made) { m.options = "" }},
		{"all", func(m *made) { m.tos, m.ttl, m.df, m.options = 0, 255, true, "abcd" }},
	} {
		for _, order := range orders(3) {
			list := []made{part(0, 16, true), part(16, 8, true), part(24, 5, false)}
			for i := range list {
				list[i].options = "1234"
			}
			want := plain(0, 29)
			want.options = "1234"
			x.other(&list[1])
			h := holdGreat(t)
			h.mustMakeOnce(want.text(), chosen(texts(list), order))

			x.other(&list[0])
			x.other(&want)
			h = holdGreat(t)
			h.mustMakeOnce(want.text(), chosen(texts(list), order))
		}
	}
}

// P16.1: where bytes may end: at 65515, and no more.
func TestAddEnds(t *testing.T) {
	for _, x := range []struct {
		at, size int
		mf       bool
		e        api.Errno
	}{
		{65512, 3, false, api.ErrMore},
		{65512, 2, false, api.ErrMore},
		{65512, 4, false, api.ErrLength},
		{65512, 8, true, api.ErrLength},
		{65512, 8, false, api.ErrLength},
		{65504, 8, true, api.ErrMore},
		{65504, 11, false, api.ErrMore},
		{65504, 12, false, api.ErrLength},
		{65504, 16, true, api.ErrLength},
		{65520, 1, false, api.ErrLength},
		{65520, 0, false, api.ErrLength},
		{65520, 8, true, api.ErrLength},
		{65528, 1, false, api.ErrLength},
		{65528, 8, true, api.ErrLength},
		{65528, 65515, false, api.ErrLength},
		{8, 65507, false, api.ErrMore},
		{8, 65508, false, api.ErrLength},
		{8, 65504, true, api.ErrMore},
		{8, 65512, true, api.ErrLength},
		{0, 65512, true, api.ErrMore},
		{32768, 32747, false, api.ErrMore},
		{32768, 32748, false, api.ErrLength},
	} {
		h := holdGreat(t)
		p := part(x.at, x.size, x.mf)
		if x.e == api.ErrMore {
			h.mustTake("a piece's end", p)
			h.mustCount("a piece's end", 1, 1, x.size)
		} else {
			h.mustRefuse("a piece's end", p.text(), x.e)
		}
	}
}

// P16.1: what a payload may be: of a piece that isn't the last one a multiple of 8 bytes, and some; of the last one anything, but none behind 0.
func TestAddPayloads(t *testing.T) {
	for _, at := range []int{0, 8, 16, 4096, 65000} {
		for size := range 42 {
			h := holdGreat(t)
			p := part(at, size, true)
			if size > 0 && size%8 == 0 {
				h.mustTake("not the last", p)
			} else {
				h.mustRefuse("not the last", p.text(), api.ErrLength)
			}
			h = holdGreat(t)
			p.mf = false
			switch {
			case at == 0:
				h.mustMake("alone", p.text(), p.text())
			case size == 0:
				h.mustRefuse("the last, without payload", p.text(), api.ErrLength)
			default:
				h.mustTake("the last", p)
			}
		}
	}
}

// P16.1: a packet with Options that would have just 65535 bytes, and one that would have more; these are those of the piece from 0 on.
func TestAddGreatest(t *testing.T) {
	for _, options := range []int{0, 4, 36, 40} {
		for _, over := range []int{-9, -8, -1, 0, 1, 2, 7, 8, 40} {
			size := 65515 - options + over
			if size > 65515 {
				continue
			}
			list := []made{part(0, 8, true), part(8, 32000, true), part(32008, size-32008, false)}
			list[0].options = counted(options)
			list[1].options, list[2].options = counted(16), counted(40)
			for _, order := range orders(3) {
				h := holdGreat(t)
				h.mustTake("the greatest", list[order[0]], list[order[1]])
				last := list[order[2]].text()
				if over <= 0 {
					h.mustMake("the greatest", last, plain(options, size).text())
				} else if p, e := h.add(last); p != "" || e != api.ErrLength {
					t.Fatalf("Options %d, %d bytes: %s, %v", options, size, shown(p), e)
				}
				h.mustCount("the greatest", 1, 0, 0)
				for _, p := range texts(list) {
					h.mustRefuse("done", p, api.ErrTwice)
				}
				h.mustRefuse("done", plain(0, 3).text(), api.ErrTwice)
			}
		}
	}
}

// P16.1: a packet that has too many bytes is done, and grows older as others do; then its pieces may come again.
func TestAddTooGreatGoes(t *testing.T) {
	h := hold(t, 1, 65515, 2)
	front, middle, back := part(0, 40, true), part(40, 65472, true), part(65512, 3, false)
	front.options = "abcd"
	h.mustTake("too great", back, middle)
	if p, e := h.add(front.text()); p != "" || e != api.ErrLength {
		t.Fatalf("too great: %s, %v", shown(p), e)
	}
	h.mustCount("too great", 1, 0, 0)
	h.mustRefuse("another", plain(0, 1).with(1).text(), api.ErrFull)
	h.tick()
	h.mustRefuse("too great", middle.text(), api.ErrTwice)
	h.tick()
	h.mustCount("gone", 0, 0, 0)
	front.options = ""
	h.mustTake("again", back, middle)
	h.mustMake("again", front.text(), plain(0, 65515).text())
}

// P16.1: pieces of which one never comes make nothing, whichever that is.
func TestAddOneWanting(t *testing.T) {
	p := plain(8, 100).text()
	list := mustCut(t, p, 44)
	for wanting := range list {
		others := append(append([]string(nil), list[:wanting]...), list[wanting+1:]...)
		for _, order := range [][]string{others, backwards(others), doubled(others, -1), append(others, others...)} {
			h := hold(t, 3, 200, 3)
			for _, piece := range order {
				if got, e := h.add(piece); got != "" || e != api.ErrMore {
					t.Fatalf("without piece %d: Add(%s): %s, %v", wanting, shown(piece), shown(got), e)
				}
			}
			h.mustCount("one wanting", 1, 1, 100-len(list[wanting])+header(list[wanting]))
			h.tick()
			h.tick()
			h.tick()
			h.mustCount("gone", 0, 0, 0)
		}
	}
}

// Rule 3: what was handed in may become something else, and so may what was told: the table has memory of its own.
func TestAddKeepsNothing(t *testing.T) {
	want := plain(12, 100).text()
	list := mustCut(t, want, 56)
	for _, order := range orders(len(list)) {
		h := holdGreat(t)
		for i, at := range order {
			bytes := []byte(list[at])
			got, e := h.x.Add(unsafe.String(&bytes[0], len(bytes)))
			clear(bytes)
			if i < len(order)-1 && (got != "" || e != api.ErrMore) || i == len(order)-1 && (got != want || e != api.OK) {
				t.Fatalf("order %v, piece %d: %s, %v", order, i, shown(got), e)
			}
		}
		if got, e := h.x.Add(list[0]); got != "" || e != api.ErrTwice {
			t.Fatalf("order %v: %s, %v", order, shown(got), e)
		}
	}
}

// P16.1: drawn pieces of few keys and places, so that they meet in every way, with ticks between.
func TestAddDrawn(t *testing.T) {
	draw := rand.New(rand.NewSource(161))
	for range 4000 {
		h := hold(t, 1+draw.Intn(5), 1+draw.Intn(120), 1+draw.Intn(6))
		for range 60 {
			if draw.Intn(12) == 0 {
				h.tick()
				continue
			}
			h.add(drawnPiece(draw).text())
		}
	}
}

// drawnPiece is one that may hardly be, now and then.
func drawnPiece(draw *rand.Rand) made {
	sizes := []int{0, 1, 7, 8, 8, 8, 8, 9, 16, 16, 16, 24, 24, 32}
	m := part(8*draw.Intn(5), sizes[draw.Intn(len(sizes))], draw.Intn(3) > 0)
	if draw.Intn(20) == 0 && m.payload != "" {
		m.payload = m.payload[1:] + "x"
	}
	switch draw.Intn(8) {
	case 0:
		m.src = m.dst
	case 1:
		m.dst = m.src
	case 2:
		m.proto++
	case 3:
		m.id++
	case 4:
		m.tos, m.ttl, m.df, m.options = draw.Intn(256), draw.Intn(256), draw.Intn(2) == 1, drawnText(draw, 4*draw.Intn(11))
	}
	return m
}

// orders are all in which so many may come.
func orders(n int) [][]int {
	if n == 0 {
		return [][]int{nil}
	}
	var list [][]int
	for _, order := range orders(n - 1) {
		for at := range n {
			list = append(list, append(append(append([]int(nil), order[:at]...), n-1), order[at:]...))
		}
	}
	return list
}

func chosen(list []string, order []int) []string {
	var some []string
	for _, at := range order {
		some = append(some, list[at])
	}
	return some
}

func texts(list []made) []string {
	var all []string
	for _, m := range list {
		all = append(all, m.text())
	}
	return all
}
