package reasm_test

import (
	"math/rand"
	"testing"

	"palanquin/api"
)

// mustTick says how many entries must go.
func (h held) mustTick(why string, gone int) {
	h.t.Helper()
	if n := h.tick(); n != gone {
		h.t.Fatalf("%s: Tick: %d, want %d", why, n, gone)
	}
}

// P16.2: an empty table has nothing, however often it's ticked.
func TestTickEmpty(t *testing.T) {
	h := hold(t, 1, 1, 1)
	for range 70 {
		h.mustTick("empty", 0)
		h.mustCount("empty", 0, 0, 0)
	}
}

// P16.2: an entry stays for one tick less than Life, and goes with the next, be it open or done; then its pieces come again as if they never had.
func TestTickLife(t *testing.T) {
	for _, life := range []int{1, 2, 3, 10, 63, 64} {
		for _, done := range []bool{false, true} {
			h := hold(t, 2, 40, life)
			for range 3 {
				h.mustTake("a piece", part(8, 8, true))
				if done {
					h.mustTake("another", part(0, 8, true))
					h.mustMake("the last", part(16, 3, false).text(), plain(0, 19).text())
				}
				for range life - 1 {
					h.mustTick("less than Life", 0)
					h.mustCount("less than Life", 1, bit(!done), 8*bit(!done))
					if done {
						h.mustRefuse("done", part(8, 8, true).text(), api.ErrTwice)
					} else {
						h.mustRefuse("there", part(8, 8, true).text(), api.ErrMore)
						h.mustRefuse("there", part(8, 16, true).text(), api.ErrFrag)
					}
				}
				h.mustTick("as many as Life", 1)
				h.mustCount("as many as Life", 0, 0, 0)
				h.mustTick("more than Life", 0)
			}
			// Not one byte is left of what was there.
			h.mustTake("it comes again", part(0, 8, true))
			h.mustTake("what wouldn't have fitted", part(8, 16, true))
			h.mustMake("the last", part(24, 1, false).text(), plain(0, 25).text())
		}
	}
}

// P16.2: what comes later to an entry, taken or refused, makes it no younger; nor does it that it's done.
func TestTickNoYounger(t *testing.T) {
	h := hold(t, 2, 100, 4)
	h.mustTake("the first piece", part(8, 8, true))
	h.mustTick("one", 0)
	h.mustTake("the second piece", part(16, 8, true))
	h.mustRefuse("alike", part(8, 8, true).text(), api.ErrMore)
	h.mustTick("two", 0)
	h.mustRefuse("doesn't fit", part(8, 16, true).text(), api.ErrFrag)
	h.mustTick("three", 0)
	h.mustTake("the last piece", part(24, 8, false))
	h.mustTick("four", 1)
	h.mustRefuse("no piece", part(0, 9, true).text(), api.ErrLength)
	h.mustCount("all are gone", 0, 0, 0)

	h.mustTake("the first piece", part(8, 8, true))
	h.mustTick("one", 0)
	h.mustTick("two", 0)
	h.mustTick("three", 0)
	h.mustTake("the second piece", part(0, 8, true))
	h.mustMake("the last piece", part(16, 8, false).text(), plain(0, 24).text())
	h.mustRefuse("done", part(16, 8, false).text(), api.ErrTwice)
	h.mustTick("four", 1)
	h.mustMake("it comes again", plain(0, 24).text(), plain(0, 24).text())
	h.mustTick("a new one is of the age 0", 0)
}

// P16.2: entries of every age: with each tick those go that are as old as Life, and none of the others.
func TestTickAges(t *testing.T) {
	for _, life := range []int{1, 2, 3, 5, 8} {
		h := hold(t, 64, 1000, life)
		for round := range 20 {
			// One entry, two or three, of which the second one is done.
			for i := range round%3 + 1 {
				p := plain(0, 5).with(100*round + i)
				if i%2 == 1 {
					h.mustMake("done", p.text(), p.text())
				} else {
					h.mustTake("open", part(8, 5, false).with(100*round+i))
				}
			}
			gone := 0
			if old := round - life + 1; old >= 0 {
				gone = old%3 + 1
			}
			h.mustTick("a round", gone)
		}
		for left := life - 1; left > 0; left-- {
			h.mustTick("the last rounds", (20-left)%3+1)
		}
		h.mustCount("all are gone", 0, 0, 0)
	}
}

// P16.2: as many as there may be go at once.
func TestTickAll(t *testing.T) {
	h := hold(t, 64, 1<<20, 2)
	h.fill(0, 64)
	h.mustTick("one", 0)
	h.mustCount("one", 64, 64, 512)
	h.mustTick("two", 64)
	h.mustCount("two", 0, 0, 0)
}

// P16.2: what Len, Open and Bytes tell is what there is, however often they're asked.
func TestTickCounts(t *testing.T) {
	h := hold(t, 3, 100, 3)
	for _, x := range []struct {
		p                    made
		entries, open, bytes int
	}{
		{part(8, 8, true), 1, 1, 8},
		{part(16, 24, true), 1, 1, 32},
		{part(16, 24, true), 1, 1, 32},
		{part(40, 3, false), 1, 1, 35},
		{part(8, 5, false).with(1), 2, 2, 40},
		{part(0, 8, true), 2, 1, 5},
		{part(0, 8, true), 2, 1, 5},
		{plain(0, 0).with(2), 3, 1, 5},
		{plain(0, 0).with(3), 3, 1, 5},
		{part(0, 8, true).with(1), 3, 0, 0},
	} {
		h.add(x.p.text())
		for range 3 {
			h.mustCount("counts", x.entries, x.open, x.bytes)
		}
	}
}

// P16.2: drawn pieces and ticks, with a long life and a short one.
func TestTickDrawn(t *testing.T) {
	draw := rand.New(rand.NewSource(163))
	for range 1500 {
		h := hold(t, 1+draw.Intn(8), 1+draw.Intn(200), 1+draw.Intn(1<<draw.Intn(7)))
		for range 80 {
			if draw.Intn(3) == 0 {
				h.tick()
			} else {
				h.add(drawnPiece(draw).with(draw.Intn(6)).text())
			}
		}
	}
}
