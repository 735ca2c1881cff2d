package reasm

import (
	"slices"
	"sort"
	"strings"

	"palanquin/api"
	"palanquin/ip4"
)

const (
	unit    = 8                  // bytes that an Offset counts as one
	mostEnd = api.MaxPacket - 20 // where the longest payload ends, which stands behind a header without Options
)

// entry is what there is of a packet.
type entry struct {
	head   api.Header4 // that of the piece from 0 on, once it is there
	pieces []piece     // by rising places
	bytes  int         // of all pieces
	age    int
	done   bool
}

// piece is all by which pieces are alike, so that those that are equal are.
type piece struct {
	at      int
	payload string
	last    bool
}

func (x piece) end() int { return x.at + len(x.payload) }

func (x piece) mayBe() bool {
	size := len(x.payload)
	switch {
	case x.end() > mostEnd:
		return false
	case !x.last:
		return size%unit == 0 && size > 0
	}
	return x.at == 0 || size > 0
}

// clashes: do two pieces that aren't alike not fit? (One that begins behind the end of the last one goes on behind it, too, since it has bytes.)
func (x piece) clashes(y piece) bool {
	return x.at < y.end() && y.at < x.end() || x.last && y.last || x.last && y.end() > x.end() || y.last && x.end() > y.end()
}

func (e *entry) has(x piece) bool { return slices.Contains(e.near(x), x) }

func (e *entry) fits(x piece) bool { return !slices.ContainsFunc(e.near(x), x.clashes) }

// near are the pieces between which another would stand. Since all fit together, one that clashes with any clashes with one of these.
func (e *entry) near(x piece) []piece {
	i := e.place(x)
	return e.pieces[max(i-1, 0):min(i+1, len(e.pieces))]
}

// place is where a piece stands, or would.
func (e *entry) place(x piece) int {
	return sort.Search(len(e.pieces), func(i int) bool { return e.pieces[i].at >= x.at })
}

// put copies what stays of a piece, since what is handed in isn't kept.
func (e *entry) put(h api.Header4, x piece) {
	x.payload = strings.Clone(x.payload)
	e.pieces = slices.Insert(e.pieces, e.place(x), x)
	e.bytes += len(x.payload)
	if x.at == 0 {
		h.Src, h.Dst, h.Options = strings.Clone(h.Src), strings.Clone(h.Dst), strings.Clone(h.Options)
		e.head = h
	}
}

// isWhole: since no two pieces share a byte, none is wanting where they have as many as the last one's end tells.
func (e *entry) isWhole() bool {
	hindmost := e.pieces[len(e.pieces)-1]
	return hindmost.last && hindmost.end() == e.bytes
}

// finish tells the packet, and lets go of its pieces.
func (e *entry) finish() (string, api.Errno) {
	var payload strings.Builder
	for _, x := range e.pieces {
		payload.WriteString(x.payload)
	}
	h := e.head
	h.MF = false
	*e = entry{age: e.age, done: true}
	// Such a header may be, so that the only error left is that of the length.
	return ip4.Put(h, payload.String())
}
