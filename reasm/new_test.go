package reasm_test

import (
	"math"
	"testing"

	"palanquin/api"
	"palanquin/reasm"
)

// numbers are those of which a store is made: its own edges, and others.
var numbers = []int{
	0, 1, 2, 40, 63, 64, 65, 66, 1<<20 - 1, 1 << 20, 1<<20 + 1, 1 << 30, 1 << 32, 1<<32 + 1, math.MaxInt, -1, -2, -64, -1 << 20, -1<<32 + 1, math.MinInt, math.MinInt + 1,
}

// P16.1: every store of three such numbers: a table, if each may be, and else none.
func TestNew(t *testing.T) {
	for _, entries := range numbers {
		for _, bytes := range numbers {
			for _, life := range numbers {
				s := api.Store{Entries: entries, Bytes: bytes, Life: life}
				x, e := reasm.New(s)
				if entries >= 1 && entries <= 64 && bytes >= 1 && bytes <= 1048576 && life >= 1 && life <= 64 {
					if x == nil || e != api.OK || x.Len() != 0 || x.Open() != 0 || x.Bytes() != 0 || x.Tick() != 0 {
						t.Fatalf("New(%+v): %v, %v", s, x, e)
					}
				} else if x != nil || e != api.ErrRange {
					t.Fatalf("New(%+v): %v, %v; want none, %v", s, x, e, api.ErrRange)
				}
			}
		}
	}
}

// P16.1: each edge alone.
func TestNewEdges(t *testing.T) {
	for _, x := range []struct {
		s api.Store
		e api.Errno
	}{
		{api.Store{}, api.ErrRange},
		{api.Store{Entries: 1, Bytes: 1, Life: 1}, api.OK},
		{api.Store{Entries: 64, Bytes: 1 << 20, Life: 64}, api.OK},
		{api.Store{Entries: 0, Bytes: 100, Life: 10}, api.ErrRange},
		{api.Store{Entries: 64, Bytes: 100, Life: 10}, api.OK},
		{api.Store{Entries: 65, Bytes: 100, Life: 10}, api.ErrRange},
		{api.Store{Entries: -1, Bytes: 100, Life: 10}, api.ErrRange},
		{api.Store{Entries: 10, Bytes: 0, Life: 10}, api.ErrRange},
		{api.Store{Entries: 10, Bytes: 1, Life: 10}, api.OK},
		{api.Store{Entries: 10, Bytes: 1 << 20, Life: 10}, api.OK},
		{api.Store{Entries: 10, Bytes: 1<<20 + 1, Life: 10}, api.ErrRange},
		{api.Store{Entries: 10, Bytes: -1, Life: 10}, api.ErrRange},
		{api.Store{Entries: 10, Bytes: 100, Life: 0}, api.ErrRange},
		{api.Store{Entries: 10, Bytes: 100, Life: 64}, api.OK},
		{api.Store{Entries: 10, Bytes: 100, Life: 65}, api.ErrRange},
		{api.Store{Entries: 10, Bytes: 100, Life: -1}, api.ErrRange},
	} {
		if got, e := reasm.New(x.s); e != x.e || (got == nil) != (x.e != api.OK) {
			t.Errorf("New(%+v): %v, %v; want %v", x.s, got, e, x.e)
		}
	}
}

// P16.1: two tables of one store share nothing.
func TestNewApart(t *testing.T) {
	a, b := hold(t, 2, 100, 2), hold(t, 2, 100, 2)
	a.mustTake("the one", part(8, 16, true))
	b.mustCount("the other", 0, 0, 0)
	b.mustTake("the other", part(0, 8, true))
	b.mustRefuse("the other", part(8, 8, true).text()+"x", api.ErrLength)
	a.tick()
	a.tick()
	a.mustCount("the one, ticked", 0, 0, 0)
	b.mustCount("the other, not ticked", 1, 1, 8)
}
