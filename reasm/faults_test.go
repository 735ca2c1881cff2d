package reasm_test

import (
	"math/rand"
	"testing"

	"palanquin/api"
)

// scene is a packet, right or wrong, and what there is ahead of it.
type scene struct {
	made
	done, alike, shares, entries, bytes bool
}

// right is a piece of the bytes from 24 to 64.
func right() scene {
	m := plain(40, 40)
	m.offset, m.mf = 3, true
	return scene{made: m}
}

// table has what the scene says: of the entry of its key, and of others, for which there are three entries and 200 bytes.
func (s scene) table(t *testing.T) held {
	t.Helper()
	h := hold(t, 3, 200, 1)
	switch x := right().made; {
	case s.alike:
		h.mustTake("alike", x)
		if s.done {
			h.mustTake("ahead of it", part(0, 24, true))
			h.add(part(64, 1, false).text())
		}
	case s.shares:
		h.mustTake("shares bytes", part(16, 16, true))
		if s.done {
			h.mustTake("ahead of it", part(0, 16, true))
			h.add(part(32, 1, false).text())
		}
	case s.done:
		h.add(plain(0, 1).text())
	}
	if s.bytes {
		h.mustTake("many bytes", part(0, 168-h.x.Bytes(), true).with(1))
	}
	for id := 2; s.entries && h.x.Len() < 3; id++ {
		h.mustTake("an entry", part(8, 8, true).with(id))
	}
	return h
}

// fault is a way in which the packet, or what there is, doesn't let it be one more piece.
type fault struct {
	name string
	e    api.Errno
	put  func(x *scene, draw *rand.Rand)
}

// faults are all, the first asked first.
func faults() []fault {
	return append(faultsOfPackets(), []fault{
		{"goes on behind 65515", api.ErrLength, func(x *scene, draw *rand.Rand) { x.offset = 8185 + draw.Intn(7) }},
		{"no multiple of 8", api.ErrLength, func(x *scene, draw *rand.Rand) { x.payload, x.mf = counted(1+8*draw.Intn(6)+draw.Intn(7)), true }},
		{"no payload, not the last", api.ErrLength, func(x *scene, draw *rand.Rand) { x.payload, x.mf, x.offset = "", true, x.offset*draw.Intn(2) }},
		{"no payload, behind 0", api.ErrLength, func(x *scene, draw *rand.Rand) { x.payload, x.mf, x.offset = "", false, 1+draw.Intn(8191) }},
		{"done", api.ErrTwice, func(x *scene, draw *rand.Rand) { x.done = true }},
		{"alike", api.ErrMore, func(x *scene, draw *rand.Rand) { x.alike = true }},
		{"shares bytes", api.ErrFrag, func(x *scene, draw *rand.Rand) { x.shares = true }},
		{"no entry", api.ErrFull, func(x *scene, draw *rand.Rand) { x.entries = true }},
		{"no bytes", api.ErrFull, func(x *scene, draw *rand.Rand) { x.bytes = true }},
	}...)
}

// faultsOfPackets are those of layer 5.
func faultsOfPackets() []fault {
	return []fault{
		{"fewer than 20", api.ErrShort, func(x *scene, draw *rand.Rand) { x.left = draw.Intn(20) }},
		{"version", api.ErrVersion, func(x *scene, draw *rand.Rand) { x.first ^= 16 * (1 + draw.Intn(15)) }},
		{"words", api.ErrLength, func(x *scene, draw *rand.Rand) { x.first ^= 15 ^ draw.Intn(5) }},
		{"header cut", api.ErrLength, func(x *scene, draw *rand.Rand) { x.left = 20 + draw.Intn(40) }},
		{"length", api.ErrLength, func(x *scene, draw *rand.Rand) { x.off = 1 + draw.Intn(65535) }},
		{"cut", api.ErrLength, func(x *scene, draw *rand.Rand) { x.left = 59 + len(x.payload) - draw.Intn(20) }},
		{"sum", api.ErrSum, func(x *scene, draw *rand.Rand) { x.wrong = 1 << draw.Intn(16) }},
		{"highest flag", api.ErrForm, func(x *scene, draw *rand.Rand) { x.flags |= 32768 }},
	}
}

// mustTell puts the faults that are chosen, and says that the first of them is told.
func mustTell(t *testing.T, chosen int, draw *rand.Rand) {
	t.Helper()
	x, want, names := right(), api.OK, "faults"
	list := faults()
	// The last that is put is the first that is asked, since it may hide what was put before.
	for i := len(list) - 1; i >= 0; i-- {
		if chosen>>i&1 == 1 {
			list[i].put(&x, draw)
			want, names = list[i].e, names+", "+list[i].name
		}
	}
	h := x.table(t)
	if want == api.OK {
		h.mustTake(names, x.made)
	} else {
		h.mustRefuse(names, x.text(), want)
	}
}

// P16.1: without a fault, one more piece, with which just as many entries and bytes as there may be are there.
func TestFaultsNone(t *testing.T) {
	mustTell(t, 0, nil)
	h := hold(t, 3, 200, 1)
	h.mustTake("two others", part(0, 160, true).with(1), part(8, 1, false).with(2))
	h.mustRefuse("one byte too many", right().text(), api.ErrFull)
	h = hold(t, 3, 200, 1)
	h.mustTake("two others", part(0, 152, true).with(1), part(8, 8, true).with(2))
	h.mustTake("just as many", right().made)
	h.mustCount("just as many", 3, 3, 200)
}

// P16.1: each fault alone, by its error, with no packet beside it, and nothing changed.
func TestFaultsOne(t *testing.T) {
	draw := rand.New(rand.NewSource(170))
	for i := range faults() {
		for range 200 {
			mustTell(t, 1<<i, draw)
		}
	}
}

// P16.1: each fault beside every later one: the first is told.
func TestFaultsTwo(t *testing.T) {
	draw := rand.New(rand.NewSource(171))
	for first := range faults() {
		for second := range first {
			for range 50 {
				mustTell(t, 1<<first|1<<second, draw)
			}
		}
	}
}

// P16.1: drawn sets of faults: the first is told.
func TestFaultsSeveral(t *testing.T) {
	draw := rand.New(rand.NewSource(172))
	for range 20000 {
		// Those that are asked first are left out more and more, so that later ones are met, too.
		n := len(faults())
		mustTell(t, draw.Intn(1<<n)>>draw.Intn(n)<<draw.Intn(n)%(1<<n), draw)
	}
}

// P16.1: every beginning of a packet, and one with more behind it, whatever there is.
func TestFaultsOfShortPackets(t *testing.T) {
	p := right().text()
	for _, x := range []scene{right(), {alike: true}, {shares: true}, {done: true}, {entries: true, bytes: true}} {
		h := x.table(t)
		for n := range p {
			want := api.ErrLength
			if n < 20 {
				want = api.ErrShort
			}
			h.mustRefuse("a beginning", p[:n], want)
		}
		h.mustRefuse("a byte more", p+"x", api.ErrLength)
		h.mustRefuse("another version", "\x6f"+p[1:], api.ErrVersion)
		h.mustRefuse("another sum", p[:10]+"\x00\x01"+p[12:], api.ErrSum)
		m := right().made
		m.flags = 32768
		h.mustRefuse("highest flag", m.text(), api.ErrForm)
	}
}

// P16.1: whatever single bit of a header is another, and so is no longer what the sum is of.
func TestFaultsEveryBit(t *testing.T) {
	p := right().text()
	h := right().table(t)
	for at := range p[:60] {
		for b := range 8 {
			if _, e := h.add(p[:at] + byteText(int(p[at])^1<<b) + p[at+1:]); e == api.ErrMore {
				t.Errorf("byte %d, bit %d: %v", at, b, e)
			}
		}
	}
	h.mustCount("no entry", 0, 0, 0)
}

// P16.1: drawn texts, which are hardly ever packets, and packets of which some bits are others.
func TestFaultsDrawnTexts(t *testing.T) {
	draw := rand.New(rand.NewSource(173))
	h := hold(t, 64, 1<<16, 64)
	for range 50000 {
		h.add(drawnText(draw, draw.Intn(100)))
	}
	for range 50000 {
		p := []byte(drawnPiece(draw).text())
		for range 1 + draw.Intn(3) {
			p[draw.Intn(len(p))] ^= 1 << draw.Intn(8)
		}
		h.add(string(p))
	}
}
