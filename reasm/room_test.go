package reasm_test

import (
	"math/rand"
	"testing"

	"palanquin/api"
)

// fill adds a piece of 8 bytes for each of so many keys, from one on.
func (h held) fill(from, n int) {
	h.t.Helper()
	for id := range n {
		h.mustTake("a key of its own", part(8, 8, true).with(from+id))
	}
}

// P16.1: just as many entries as Entries, and one more, whatever its piece; those that are there take more.
func TestRoomEntries(t *testing.T) {
	for _, n := range []int{1, 2, 3, 10, 63, 64} {
		h := hold(t, n, 1<<20, 3)
		h.fill(0, n)
		h.mustCount("full", n, n, 8*n)
		for _, p := range []made{part(8, 8, true), part(0, 8, true), part(8, 1, false), plain(0, 0), plain(0, 1), plain(40, 100)} {
			h.mustRefuse("one more", p.with(n).text(), api.ErrFull)
		}
		h.mustRefuse("alike", part(8, 8, true).text(), api.ErrFull) // the ID is another
		for id := range n {
			h.mustRefuse("alike", part(8, 8, true).with(id).text(), api.ErrMore)
			h.mustRefuse("another", part(8, 16, true).with(id).text(), api.ErrFrag)
			h.mustTake("one more piece", part(0, 8, true).with(id))
		}
		for id := range n {
			h.mustMake("the last piece", part(16, 1, false).with(id).text(), plain(0, 17).with(id).text())
			h.mustRefuse("one more, beside done ones", part(8, 8, true).with(n).text(), api.ErrFull)
			h.mustRefuse("one more, without payload", plain(0, 0).with(n).text(), api.ErrFull)
		}
		h.mustCount("done", n, 0, 0)
		h.tick()
		h.tick()
		h.mustRefuse("one more, ahead of the last tick", part(8, 8, true).with(n).text(), api.ErrFull)
		h.tick()
		h.fill(n, n)
		h.mustRefuse("one more", part(8, 8, true).with(0).text(), api.ErrFull)
	}
}

// P16.1: there is room for so many as are gone.
func TestRoomEntriesGone(t *testing.T) {
	h := hold(t, 4, 1000, 2)
	h.fill(0, 1)
	h.mustMake("done", plain(0, 9).with(1).text(), plain(0, 9).with(1).text())
	h.tick()
	h.fill(2, 2)
	h.mustRefuse("full", part(8, 8, true).with(4).text(), api.ErrFull)
	h.tick()
	h.mustCount("two gone", 2, 2, 16)
	h.fill(4, 2)
	h.mustRefuse("full again", part(8, 8, true).with(6).text(), api.ErrFull)
	h.mustRefuse("full again", part(8, 8, true).with(0).text(), api.ErrFull)
}

// P16.1: just as many bytes as Bytes, and one more, by one piece, and by several of one entry.
func TestRoomBytesOfOne(t *testing.T) {
	for _, n := range []int{1, 2, 7, 8, 9, 40, 41, 1000, 65515} {
		h := hold(t, 9, n, 3)
		h.mustMake("just as many, alone", plain(0, n).text(), plain(0, n).text())
		if n < 65515 {
			h.mustRefuse("one more, alone", plain(0, n+1).with(1).text(), api.ErrFull)
			h.mustRefuse("many more, alone", plain(0, 65515).with(1).text(), api.ErrFull)
		}
	}
}

// P16.1: likewise by pieces, of which none may be left out.
func TestRoomBytesOfPieces(t *testing.T) {
	for _, size := range []int{1, 7, 8, 9, 33} {
		h := hold(t, 1, 40+size, 3)
		h.mustTake("there is room", part(0, 16, true), part(16, 16, true))
		h.mustRefuse("eight more than there may be", part(32, (size+7)/8*8+16, true).text(), api.ErrFull)
		h.mustRefuse("one more than there may be", part(32, size+9, false).text(), api.ErrFull)
		h.mustRefuse("one more than there may be, apart", part(320, size+9, false).text(), api.ErrFull)
		h.mustMake("just as many", part(32, size+8, false).text(), plain(0, 40+size).text())

		h = hold(t, 1, 39+size, 3)
		h.mustTake("there is room", part(0, 16, true), part(16, 16, true))
		h.mustRefuse("one more, though it would be whole", part(32, size+8, false).text(), api.ErrFull)
		h.mustCount("one more", 1, 1, 32)
		h.mustMake("just as many", part(32, size+7, false).text(), plain(0, 39+size).text())
	}
}

// P16.1: likewise over several entries.
func TestRoomBytesOfSeveral(t *testing.T) {
	for _, n := range []int{1, 2, 5, 9} {
		h := hold(t, n+1, 8*n+5, 3)
		h.fill(0, n)
		x := part(8, 5, false).with(n)
		for _, p := range []made{part(8, 6, false), part(8, 8, true), part(0, 8, true), plain(0, 6), plain(40, 100)} {
			h.mustRefuse("one more", p.with(n).text(), api.ErrFull)
			h.mustRefuse("no room", part(8, 100, false).with(0).text(), api.ErrFrag)
			h.mustRefuse("no room", part(16, 6, false).with(0).text(), api.ErrFull)
		}
		h.mustCount("what is refused makes no entry", n, n, 8*n)
		h.mustTake("just as many", x)
		h.mustRefuse("a byte more", part(16, 1, false).with(0).text(), api.ErrFull)
		h.mustRefuse("alike", x.text(), api.ErrMore)
		h.mustRefuse("doesn't fit", part(0, 16, true).with(n).text(), api.ErrFrag)
		h.mustRefuse("no room for the other half", part(0, 8, true).with(n).text(), api.ErrFull)
	}
}

// P16.1: what has no bytes has room, as long as there is an entry for it.
func TestRoomBytesOfNone(t *testing.T) {
	h := hold(t, 3, 1, 3)
	h.mustRefuse("eight bytes", part(0, 8, true).text(), api.ErrFull)
	h.mustRefuse("two bytes", part(8, 2, false).text(), api.ErrFull)
	h.mustTake("a byte", part(8, 1, false))
	h.mustRefuse("its other half", part(0, 8, true).text(), api.ErrFull)
	h.mustRefuse("another byte", plain(0, 1).with(1).text(), api.ErrFull)
	h.mustMake("no bytes", plain(40, 0).with(1).text(), plain(40, 0).with(1).text())
	h.mustCount("full", 2, 1, 1)
	h.mustMake("no bytes", plain(0, 0).with(2).text(), plain(0, 0).with(2).text())
	h.mustRefuse("no bytes, and no entry", plain(0, 0).with(3).text(), api.ErrFull)
}

// P16.1: done entries count as entries, not as bytes; behind one there's room again, and just as much.
func TestRoomBytesOfDone(t *testing.T) {
	h := hold(t, 4, 24, 9)
	for id := range 3 {
		h.mustTake("the first half", part(0, 16, true).with(id))
		h.mustRefuse("one more", part(8, 9, false).with(9).text(), api.ErrFull)
		h.mustMake("the other half", part(16, 8, false).with(id).text(), plain(0, 24).with(id).text())
		h.mustCount("done", id+1, 0, 0)
		h.mustRefuse("one more", plain(0, 25).with(9).text(), api.ErrFull)
	}
	h.mustTake("room again", part(0, 24, true).with(3))
	h.mustRefuse("as much as was", part(24, 1, false).with(3).text(), api.ErrFull)
}

// P16.1: likewise behind one that has gone.
func TestRoomBytesOfGone(t *testing.T) {
	h := hold(t, 4, 24, 2)
	h.mustTake("the oldest", part(0, 8, true).with(0))
	h.tick()
	h.mustTake("the next", part(8, 16, true).with(1))
	h.mustRefuse("no room", part(8, 1, false).with(2).text(), api.ErrFull)
	h.tick()
	h.mustCount("the oldest is gone", 1, 1, 16)
	h.mustRefuse("no room", part(8, 9, false).with(2).text(), api.ErrFull)
	h.mustTake("room", part(8, 8, false).with(2))
	h.mustRefuse("no room", part(0, 8, true).with(2).text(), api.ErrFull)
	h.tick()
	h.mustCount("the next is gone", 1, 1, 8)
	h.mustMake("room", part(0, 8, true).with(2).text(), plain(0, 16).with(2).text())
}

// P16.1: as many bytes as there may be at all, and one more.
func TestRoomGreatest(t *testing.T) {
	h := holdGreat(t)
	for id := range 16 {
		h.mustTake("a great piece", part(0, 65512, true).with(id))
	}
	h.mustRefuse("eight more", part(8, 392, true).with(16).text(), api.ErrFull)
	h.mustRefuse("one more", part(8, 385, false).with(16).text(), api.ErrFull)
	h.mustTake("just as many", part(8, 384, false).with(16))
	h.mustCount("full", 17, 17, 1<<20)
	h.mustRefuse("one more", part(65512, 1, false).with(0).text(), api.ErrFull)
	h.mustRefuse("one more", plain(0, 1).with(17).text(), api.ErrFull)
	h.mustMake("none more", plain(0, 0).with(17).text(), plain(0, 0).with(17).text())
}

// P16.1: what is refused changes nothing, whatever is there, and however often it comes: the pieces that are wanting make the packet as ever.
func TestRoomRefused(t *testing.T) {
	refused := []string{
		"", part(0, 16, true).text() + "x", part(0, 9, true).text(), part(0, 0, true).text(), part(8, 0, false).text(), part(65512, 8, true).text(),
		plain(0, 1).with(1).text(), part(0, 8, true).with(1).text(), part(16, 48, true).with(2).text(), part(16, 40, false).with(3).text(),
		part(0, 8, true).text(), part(8, 8, true).text(), part(16, 16, true).text(), part(32, 5, false).text(),
		part(0, 16, true).text(), part(8, 16, true).text(), part(8, 8, false).text(), part(0, 32, true).text(), part(0, 7, false).text(),
		plain(0, 0).text(), plain(0, 20).text(), plain(0, 40).text(), part(32, 6, false).text(), part(32, 8, true).text(), part(40, 8, true).text(),
		part(48, 24, true).text(), part(80, 30, false).text(), part(16, 16, false).text(), part(24, 8, true).text(),
	}
	list := []made{part(8, 8, true), part(32, 5, false), part(16, 16, true), part(0, 8, true)}
	errors := map[api.Errno]int{}
	for _, order := range orders(len(list)) {
		h := hold(t, 2, 37, 9)
		h.mustMake("done", plain(0, 3).with(1).text(), plain(0, 3).with(1).text())
		for i, at := range order {
			for _, p := range append(refused, refused...) {
				if e := h.slow.refuse(p); e != api.OK {
					h.mustRefuse("refused", p, e)
					errors[e]++
				}
			}
			if i < len(order)-1 {
				h.mustTake("wanting", list[at])
			} else {
				h.mustMake("the last one", list[at].text(), plain(0, 37).text())
			}
		}
	}
	for _, e := range []api.Errno{api.ErrShort, api.ErrLength, api.ErrTwice, api.ErrMore, api.ErrFrag, api.ErrFull} {
		if errors[e] < 10 {
			t.Errorf("%v: %d times alone", e, errors[e])
		}
	}
}

// P16.3: whatever comes, a table never has more entries, or bytes, than its store; what has no room is refused.
func TestRoomDrawn(t *testing.T) {
	draw := rand.New(rand.NewSource(162))
	full := 0
	for range 300 {
		h := hold(t, 1+draw.Intn(64), 1+draw.Intn(1<<(1+draw.Intn(15))), 1+draw.Intn(64))
		for range 200 {
			if draw.Intn(20) == 0 {
				h.tick()
				continue
			}
			size := draw.Intn(1 << draw.Intn(12))
			m := part(8*draw.Intn(20), size, draw.Intn(4) > 0)
			if m.mf {
				m.payload = m.payload[:size/8*8]
			}
			if _, e := h.add(m.with(draw.Intn(80)).text()); e == api.ErrFull {
				full++
			}
		}
	}
	if full < 1000 {
		t.Errorf("ErrFull %d times alone", full)
	}
}
