package reasm_test

import (
	"testing"

	"palanquin/api"
)

// P16.1: a piece like one that is there, whatever its other fields, is told to be wanting others, and changes nothing.
func TestFitAlike(t *testing.T) {
	for _, x := range []made{part(0, 8, true), part(0, 24, true), part(16, 24, true), part(16, 24, false), part(16, 1, false), part(65512, 3, false)} {
		h := hold(t, 1, 40, 3)
		h.mustTake("a piece", x)
		for range 3 {
			h.mustRefuse("alike", x.text(), api.ErrMore)
		}
		x.tos, x.ttl, x.df, x.options = 0, 255, true, "abcd"
		h.mustRefuse("alike but for what the key doesn't hold", x.text(), api.ErrMore)
	}
}

// P16.1: the header is that of the first of two pieces from 0 on that are alike.
func TestFitAlikeHeader(t *testing.T) {
	first, second, last := part(0, 8, true), part(0, 8, true), part(8, 1, false)
	first.tos, first.options = 1, "abcd"
	second.tos, second.ttl, second.df, second.options = 2, 3, true, "12345678"
	want := plain(0, 9)
	want.tos, want.options = 1, "abcd"
	h := holdGreat(t)
	h.mustTake("the first", first)
	h.mustRefuse("the second", second.text(), api.ErrMore)
	h.mustMake("the last", last.text(), want.text())
}

// P16.1: the same bytes with another payload, or the same of which one alone is the last, don't fit.
func TestFitNearlyAlike(t *testing.T) {
	for _, at := range []int{0, 8, 40} {
		for _, size := range []int{8, 16, 24} {
			for _, mf := range []bool{true, false} {
				if at == 0 && !mf {
					continue // it's no piece
				}
				x := part(at, size, mf)
				h := hold(t, 2, 100, 3)
				h.mustTake("a piece", x)
				for place := range size {
					y := x
					y.payload = x.payload[:place] + byteText(int(x.payload[place])^1) + x.payload[place+1:]
					h.mustRefuse("another payload", y.text(), api.ErrFrag)
					y.mf = !mf
					h.mustRefuse("another payload, and MF", y.text(), api.ErrFrag)
				}
				y := x
				y.mf = !mf
				h.mustRefuse("another MF", y.text(), api.ErrFrag)
				h.mustRefuse("alike", x.text(), api.ErrMore)
				y = x.with(1)
				y.payload = "x" + x.payload[1:]
				h.mustTake("the same bytes, of another key", y)
			}
		}
	}
}

// P16.1: pieces beside which others stand, and what they share with these.
func TestFitShares(t *testing.T) {
	const fits, clashes = api.ErrMore, api.ErrFrag
	for _, x := range []struct {
		name  string
		there []made
		p     made
		e     api.Errno
	}{
		{"ahead of it", []made{part(16, 16, true)}, part(8, 8, true), fits},
		{"far ahead of it", []made{part(16, 16, true)}, part(0, 8, true), fits},
		{"behind it", []made{part(16, 16, true)}, part(32, 8, true), fits},
		{"far behind it", []made{part(16, 16, true)}, part(40, 8, true), fits},
		{"at its front", []made{part(16, 16, true)}, part(8, 16, true), clashes},
		{"from its front on", []made{part(16, 16, true)}, part(16, 8, true), clashes},
		{"at its end", []made{part(16, 16, true)}, part(24, 16, true), clashes},
		{"up to its end", []made{part(16, 16, true)}, part(24, 8, true), clashes},
		{"inside it", []made{part(16, 24, true)}, part(24, 8, true), clashes},
		{"around it", []made{part(16, 16, true)}, part(8, 32, true), clashes},
		{"around it, from its front on", []made{part(16, 16, true)}, part(16, 24, true), clashes},
		{"around it, up to its end", []made{part(16, 16, true)}, part(8, 24, true), clashes},
		{"around it, from 0 on", []made{part(16, 16, true)}, part(0, 40, true), clashes},

		{"a last byte at its front", []made{part(16, 16, true)}, part(16, 1, false), clashes},
		{"a last piece inside it", []made{part(16, 24, true)}, part(24, 9, false), clashes},
		{"a last piece up to its end", []made{part(16, 16, true)}, part(24, 8, false), clashes},
		{"a last piece at its end", []made{part(16, 16, true)}, part(24, 9, false), clashes},
		{"a last piece around it", []made{part(16, 16, true)}, part(8, 25, false), clashes},
		{"all of it, and alone", []made{part(16, 16, true)}, part(0, 40, false), clashes},
		{"a last byte behind it", []made{part(16, 16, true)}, part(32, 1, false), fits},
		{"a last piece far behind it", []made{part(16, 16, true)}, part(48, 9, false), fits},

		{"ahead of the last one", []made{part(16, 9, false)}, part(8, 8, true), fits},
		{"at the last one's front", []made{part(16, 9, false)}, part(8, 16, true), clashes},
		{"from the last one's front on", []made{part(16, 9, false)}, part(16, 8, true), clashes},
		{"its last byte, and behind", []made{part(16, 9, false)}, part(24, 8, true), clashes},
		{"around the last one", []made{part(16, 9, false)}, part(8, 24, true), clashes},
		{"inside the last one", []made{part(16, 33, false)}, part(24, 8, true), clashes},

		{"between two", []made{part(0, 8, true), part(24, 8, true)}, part(8, 16, true), fits},
		{"between two, at the front", []made{part(0, 8, true), part(24, 8, true)}, part(8, 8, true), fits},
		{"between two, at the end", []made{part(0, 8, true), part(24, 8, true)}, part(16, 8, true), fits},
		{"the first of two", []made{part(0, 16, true), part(24, 8, true)}, part(8, 16, true), clashes},
		{"the second of two", []made{part(0, 16, true), part(24, 8, true)}, part(16, 16, true), clashes},
		{"both of two", []made{part(0, 16, true), part(24, 8, true)}, part(8, 24, true), clashes},
		{"inside the first of three", []made{part(0, 24, true), part(32, 8, true), part(48, 8, true)}, part(8, 8, true), clashes},
		{"around the second of three", []made{part(0, 8, true), part(16, 8, true), part(32, 8, true)}, part(8, 24, true), clashes},
		{"around all three", []made{part(8, 8, true), part(24, 8, true), part(40, 8, true)}, part(0, 64, true), clashes},
		{"ahead of the second of three", []made{part(0, 8, true), part(24, 8, true), part(40, 9, false)}, part(8, 16, true), fits},
		{"behind the second of three", []made{part(0, 8, true), part(24, 8, true), part(40, 9, false)}, part(32, 8, true), fits},
	} {
		mustMeet(t, x.name, x.there, x.p, x.e)
	}
}

// P16.1: two last pieces, and pieces that go on, or begin, behind the end of the last one, whichever of them came first.
func TestFitLast(t *testing.T) {
	for _, x := range []struct {
		name string
		a, b made
	}{
		{"two last ones, apart", part(16, 8, false), part(32, 8, false)},
		{"two last ones, side by side", part(16, 8, false), part(24, 8, false)},
		{"two last ones of one end", part(16, 16, false), part(24, 8, false)},
		{"two last ones of one beginning", part(16, 7, false), part(16, 8, false)},
		{"two last ones, far apart", part(16, 1, false), part(65512, 3, false)},
		{"goes on behind it, by a byte", part(16, 7, false), part(16, 8, true)},
		{"goes on behind it", part(16, 9, false), part(8, 24, true)},
		{"begins in it, goes on behind it", part(16, 9, false), part(24, 8, true)},
		{"begins at its end", part(16, 8, false), part(24, 8, true)},
		{"begins a byte behind its end", part(16, 7, false), part(24, 8, true)},
		{"begins behind its end", part(16, 8, false), part(32, 8, true)},
		{"begins far behind its end", part(16, 1, false), part(65504, 8, true)},
	} {
		mustMeet(t, x.name, []made{x.a}, x.b, api.ErrFrag)
		mustMeet(t, x.name+", the other first", []made{x.b}, x.a, api.ErrFrag)
		// Others beside them are no help.
		mustMeet(t, x.name+", beside another", []made{part(0, 8, true), x.a}, x.b, api.ErrFrag)
		mustMeet(t, x.name+", the other first, beside another", []made{x.b, part(0, 8, true)}, x.a, api.ErrFrag)
	}
	mustMeet(t, "ends at the last one's front", []made{part(16, 1, false)}, part(8, 8, true), api.ErrMore)
	mustMeet(t, "the last one begins at its end", []made{part(8, 8, true)}, part(16, 1, false), api.ErrMore)
	mustMeet(t, "two ahead of the last one", []made{part(8, 8, true), part(32, 8, false)}, part(16, 16, true), api.ErrMore)
	mustMeet(t, "behind one far ahead of the last one", []made{part(32, 8, true), part(8, 8, true)}, part(16, 8, false), api.ErrFrag)
}

// P16.1: a packet that isn't a piece doesn't fit to an open entry, without payload neither; to such a key that has none it does.
func TestFitNoPiece(t *testing.T) {
	for _, there := range []made{part(0, 8, true), part(8, 8, true), part(8, 8, false), part(8, 1, false), part(65504, 8, true)} {
		for _, size := range []int{0, 1, 7, 8, 9, 16, 17, 24, 65515} {
			mustMeet(t, "no piece", []made{there}, part(0, size, false), api.ErrFrag)
			h := hold(t, 2, 1<<20, 1)
			h.mustTake("there", there)
			h.mustMake("another key", plain(0, size).with(1).text(), plain(0, size).with(1).text())
		}
	}
}

// mustMeet says how a piece meets those that are there; what doesn't fit changes nothing, so that all that's wanting still makes the packet.
func mustMeet(t *testing.T, name string, there []made, p made, want api.Errno) {
	t.Helper()
	h := holdGreat(t)
	h.mustTake(name, there...)
	if want == api.ErrMore {
		h.mustTake(name, p)
		there = append(there, p)
	} else {
		for range 2 {
			h.mustRefuse(name, p.text(), want)
		}
	}
	rest := wanting(there)
	h.mustTake(name, rest[:len(rest)-1]...)
	size := end(rest[len(rest)-1].text())
	for _, m := range there {
		size = max(size, end(m.text()))
	}
	h.mustMake(name, rest[len(rest)-1].text(), plain(0, size).text())
}

// wanting are the pieces that would make a packet of those that are there: by 8 bytes each, where there are none yet, and a last one, if that isn't there.
func wanting(there []made) []made {
	var list []made
	at, hasLast := 0, false
	for !hasLast {
		next := made{offset: -1}
		for _, m := range there {
			if m.offset*8 >= at && (next.offset < 0 || m.offset < next.offset) {
				next = m
			}
		}
		switch {
		case next.offset < 0:
			list = append(list, part(at, 3, false))
			hasLast = true
		case next.offset*8 == at:
			at += len(next.payload)
			hasLast = !next.mf
		default:
			size := min(next.offset*8-at, 512)
			list = append(list, part(at, size, true))
			at += size
		}
	}
	return list
}
