package reasm_test

import (
	"fmt"
	"math/rand"
	"testing"

	"palanquin/api"
	"palanquin/frag"
	"palanquin/reasm"
)

// all is more bytes than any text of a test has.
const all = 1 << 20

// made is what a packet is made of, right or wrong.
type made struct {
	tos, id, offset, ttl, proto int
	df, mf                      bool
	src, dst, options, payload  string

	// Bits that are turned: of the first byte, of the two with DF, and of the sum, once that is right.
	first, flags, wrong int

	off  int // how many bytes more it says to have
	left int // how many of its bytes are left
}

// plain is a packet whose fields are all unlike the others.
func plain(options, payload int) made {
	return made{
		tos: 0x11, id: 0x2233, ttl: 0x66, proto: 0x77, src: "\x0a\x01\x02\x03", dst: "\xc0\xa8\xff\x04",
		options: counted(options), payload: counted(payload), left: all,
	}
}

// part is a piece of one and the same payload, from a place on.
func part(at, size int, mf bool) made {
	m := plain(0, 0)
	m.offset, m.mf, m.payload = at/8, mf, counted(at + size)[at:]
	return m
}

// with is a packet of another ID.
func (m made) with(id int) made {
	m.id = id
	return m
}

// counted is a text of which no 251 bytes in a row have two alike.
func counted(length int) string {
	text := make([]byte, length)
	for i := range text {
		text[i] = byte(1 + i%251)
	}
	return string(text)
}

func (m made) text() string {
	length := 20 + len(m.options) + len(m.payload) + m.off
	flags := m.offset + 8192*bit(m.mf) + 16384*bit(m.df) ^ m.flags
	header := byteText(69+len(m.options)/4^m.first) + byteText(m.tos) + two(length) + two(m.id) + two(flags) +
		byteText(m.ttl) + byteText(m.proto) + two(0) + m.src + m.dst + m.options
	p := header[:10] + two(slowSum(header)^m.wrong) + header[12:] + m.payload
	return p[:min(len(p), m.left)]
}

// header is how many bytes stand ahead of a packet's payload.
func header(p string) int { return 4 * int(p[0]%16) }

// begin, end and more are what a packet says of its bytes' places, and of its MF.
func begin(p string) int { return number(p, 6) % 8192 * 8 }

func end(p string) int { return begin(p) + len(p) - header(p) }

func more(p string) bool { return p[6]/32%2 == 1 }

// slowGet asks layer 5's questions of the bytes, one by one.
func slowGet(p string) api.Errno {
	switch {
	case len(p) < 20:
		return api.ErrShort
	case p[0]/16 != 4:
		return api.ErrVersion
	case header(p) < 20 || header(p) > len(p) || number(p, 2) != len(p):
		return api.ErrLength
	case slowSum(p[:header(p)]) != 0:
		return api.ErrSum
	case p[6] >= 128:
		return api.ErrForm
	}
	return api.OK
}

// slowTable keeps the pieces as they came, and asks every byte of theirs.
type slowTable struct {
	store api.Store
	list  []*slowEntry
}

type slowEntry struct {
	key   string
	taken []string
	bytes []int // what stands at each place, or -1
	age   int
	done  bool
}

func (t *slowTable) add(p string) (string, api.Errno) {
	if e := t.refuse(p); e != api.OK {
		return "", e
	}
	x := t.find(slowKey(p))
	if x == nil {
		x = &slowEntry{key: slowKey(p)}
		t.list = append(t.list, x)
	}
	x.take(p)
	return x.answer()
}

// refuse is why a packet can't be one more piece.
func (t *slowTable) refuse(p string) api.Errno {
	if e := slowGet(p); e != api.OK {
		return e
	}
	size := len(p) - header(p)
	if end(p) > 65515 || more(p) && size%8 != 0 || size == 0 && (more(p) || begin(p) > 0) {
		return api.ErrLength
	}
	x := t.find(slowKey(p))
	switch {
	case x != nil && x.done:
		return api.ErrTwice
	case x != nil && x.hasLike(p):
		return api.ErrMore
	case x != nil && !x.fits(p):
		return api.ErrFrag
	case x == nil && len(t.list) >= t.store.Entries, t.bytes()+size > t.store.Bytes:
		return api.ErrFull
	}
	return api.OK
}

func slowKey(p string) string { return p[4:6] + p[9:10] + p[12:20] }

func (t *slowTable) find(key string) *slowEntry {
	for _, x := range t.list {
		if x.key == key {
			return x
		}
	}
	return nil
}

func (t *slowTable) tick() int {
	var left []*slowEntry
	for _, x := range t.list {
		x.age++
		if x.age < t.store.Life {
			left = append(left, x)
		}
	}
	gone := len(t.list) - len(left)
	t.list = left
	return gone
}

func (t *slowTable) bytes() int {
	n := 0
	for _, x := range t.list {
		for _, p := range x.taken {
			n += len(p) - header(p)
		}
	}
	return n
}

func (t *slowTable) open() int {
	n := 0
	for _, x := range t.list {
		n += bit(!x.done)
	}
	return n
}

func (x *slowEntry) hasLike(p string) bool {
	for _, q := range x.taken {
		if begin(p) == begin(q) && more(p) == more(q) && p[header(p):] == q[header(q):] {
			return true
		}
	}
	return false
}

func (x *slowEntry) fits(p string) bool {
	for at := begin(p); at < end(p); at++ {
		if at < len(x.bytes) && x.bytes[at] >= 0 {
			return false
		}
	}
	for _, q := range x.taken {
		if !more(p) && !more(q) || !more(p) && isBehind(q, end(p)) || !more(q) && isBehind(p, end(q)) {
			return false
		}
	}
	return true
}

func isBehind(p string, place int) bool { return begin(p) > place || end(p) > place }

func (x *slowEntry) take(p string) {
	x.taken = append(x.taken, p)
	for len(x.bytes) < end(p) {
		x.bytes = append(x.bytes, -1)
	}
	for at := begin(p); at < end(p); at++ {
		x.bytes[at] = int(p[header(p)+at-begin(p)])
	}
}

// answer is the packet, once it is whole; then there is none that it has any more.
func (x *slowEntry) answer() (string, api.Errno) {
	front, hasLast := "", false
	for _, p := range x.taken {
		if begin(p) == 0 {
			front = p
		}
		hasLast = hasLast || !more(p)
	}
	payload := make([]byte, len(x.bytes))
	for at, b := range x.bytes {
		if b < 0 {
			return "", api.ErrMore
		}
		payload[at] = byte(b)
	}
	if !hasLast {
		return "", api.ErrMore
	}
	x.done, x.taken, x.bytes = true, nil, nil
	if header(front)+len(payload) > 65535 {
		return "", api.ErrLength
	}
	return slowWhole(front, string(payload)), api.OK
}

// slowWhole is a header without Offset and MF, and a payload.
func slowWhole(front, payload string) string {
	h := front[:2] + two(header(front)+len(payload)) + front[4:6] + byteText(int(front[6]/64)*64) + "\x00" + front[8:10] + two(0) + front[12:header(front)]
	return h[:10] + two(slowSum(h)) + h[12:] + payload
}

// slowSum is the sum of a text: its numbers of two bytes, folded, turned over.
func slowSum(text string) int {
	total := 0
	for i := 0; i < len(text); i += 2 {
		total += number(text, i)
	}
	for total > 65535 {
		total = total%65536 + total/65536
	}
	return 65535 - total
}

func number(b string, at int) int { return int(b[at])*256 + int(b[at+1]) }

func two(n int) string { return string([]byte{byte(n / 256), byte(n)}) }

func byteText(b int) string { return string([]byte{byte(b)}) }

func bit(on bool) int {
	if on {
		return 1
	}
	return 0
}

// held is a table, held against the slow one call by call.
type held struct {
	t    *testing.T
	x    *reasm.Table
	slow *slowTable
}

func hold(t *testing.T, entries, bytes, life int) held {
	t.Helper()
	s := api.Store{Entries: entries, Bytes: bytes, Life: life}
	x, e := reasm.New(s)
	if x == nil || e != api.OK {
		t.Fatalf("New(%+v): %v, %v", s, x, e)
	}
	h := held{t, x, &slowTable{store: s}}
	h.mustCount("a new table", 0, 0, 0)
	return h
}

// holdGreat is a table with as much room as there may be.
func holdGreat(t *testing.T) held {
	t.Helper()
	return hold(t, 64, 1<<20, 64)
}

// add says that the answer is the slow one's, and what P16.1 and Rule 1 say of every answer: beside an error no packet, and else one of layer 5.
func (h held) add(p string) (string, api.Errno) {
	h.t.Helper()
	got, e := h.x.Add(p)
	want, no := h.slow.add(p)
	if got != want || e != no {
		h.t.Fatalf("Add(%s): %s, %v; want %s, %v", shown(p), shown(got), e, shown(want), no)
	}
	if e != api.OK && got != "" || e == api.OK && (slowGet(got) != api.OK || begin(got) != 0 || more(got)) {
		h.t.Fatalf("Add(%s): %s, %v", shown(p), shown(got), e)
	}
	h.mustHold("behind Add")
	return got, e
}

func (h held) tick() int {
	h.t.Helper()
	got, want := h.x.Tick(), h.slow.tick()
	if got != want {
		h.t.Fatalf("Tick: %d, want %d", got, want)
	}
	h.mustHold("behind Tick")
	return got
}

// mustHold holds the counts against the slow ones, and against the store.
func (h held) mustHold(why string) {
	h.t.Helper()
	h.mustCount(why, len(h.slow.list), h.slow.open(), h.slow.bytes())
	if h.x.Len() > h.slow.store.Entries || h.x.Bytes() > h.slow.store.Bytes {
		h.t.Fatalf("%s: %d entries, %d bytes; the store is %+v", why, h.x.Len(), h.x.Bytes(), h.slow.store)
	}
}

func (h held) mustCount(why string, entries, open, bytes int) {
	h.t.Helper()
	if h.x.Len() != entries || h.x.Open() != open || h.x.Bytes() != bytes {
		h.t.Fatalf("%s: Len %d, Open %d, Bytes %d; want %d, %d, %d", why, h.x.Len(), h.x.Open(), h.x.Bytes(), entries, open, bytes)
	}
}

// mustMake says which packet a piece must make.
func (h held) mustMake(why, p, want string) {
	h.t.Helper()
	if got, e := h.add(p); got != want || e != api.OK {
		h.t.Fatalf("%s: Add(%s): %s, %v; want %s", why, shown(p), shown(got), e, shown(want))
	}
}

// mustTake says that a piece is one more of its entry's, and that others are wanting.
func (h held) mustTake(why string, list ...made) {
	h.t.Helper()
	for _, m := range list {
		before := h.x.Bytes()
		if _, e := h.add(m.text()); e != api.ErrMore || h.x.Bytes() != before+len(m.payload) {
			h.t.Fatalf("%s: Add(%s): %v, %d bytes more", why, shown(m.text()), e, h.x.Bytes()-before)
		}
	}
}

// mustRefuse says what error Add must tell, and that no count is another.
func (h held) mustRefuse(why, p string, want api.Errno) {
	h.t.Helper()
	entries, open, bytes := h.x.Len(), h.x.Open(), h.x.Bytes()
	if got, e := h.add(p); got != "" || e != want {
		h.t.Fatalf("%s: Add(%s): %s, %v; want none, %v", why, shown(p), shown(got), e, want)
	}
	h.mustCount(why, entries, open, bytes)
}

// mustMakeOnce says what P16.3 does of a packet's pieces in some order: that the packet is made just once.
func (h held) mustMakeOnce(p string, list []string) {
	h.t.Helper()
	times := 0
	for i, piece := range list {
		got, e := h.add(piece)
		switch {
		case e == api.OK && got == p && times == 0:
			times++
		case e == api.ErrMore && times == 0, e == api.ErrTwice && times == 1:
		default:
			h.t.Fatalf("%s, piece %d of %d, %s: %s, %v, made %d times", shown(p), i, len(list), shown(piece), shown(got), e, times)
		}
	}
	if times != 1 {
		h.t.Fatalf("%s, %d pieces: made %d times", shown(p), len(list), times)
	}
}

func mustCut(t *testing.T, p string, mtu int) []string {
	t.Helper()
	list, e := frag.Cut(p, mtu)
	if e != api.OK {
		t.Fatalf("Cut(%s, %d): %v", shown(p), mtu, e)
	}
	return list
}

func backwards(list []string) []string {
	var turned []string
	for i := len(list) - 1; i >= 0; i-- {
		turned = append(turned, list[i])
	}
	return turned
}

// doubled has each one that is chosen once more, right behind itself.
func doubled(list []string, chosen int) []string {
	var twice []string
	for i, p := range list {
		twice = append(twice, p)
		if chosen>>(i%32)&1 == 1 {
			twice = append(twice, p)
		}
	}
	return twice
}

func shuffled(draw *rand.Rand, list []string) []string {
	mixed := append([]string(nil), list...)
	draw.Shuffle(len(mixed), func(i, j int) { mixed[i], mixed[j] = mixed[j], mixed[i] })
	return mixed
}

func shown(text string) string {
	if len(text) > 80 {
		return fmt.Sprintf("%x.. of %d bytes", text[:80], len(text))
	}
	return fmt.Sprintf("%x", text)
}

func drawnText(draw *rand.Rand, length int) string {
	text := make([]byte, length)
	draw.Read(text)
	return string(text)
}

// drawnPacket is one that may be, and may be cut.
func drawnPacket(draw *rand.Rand, most int) made {
	return made{
		tos: draw.Intn(256), id: draw.Intn(65536), ttl: draw.Intn(256), proto: draw.Intn(256), src: drawnText(draw, 4), dst: drawnText(draw, 4),
		options: drawnText(draw, 4*draw.Intn(11)), payload: drawnText(draw, draw.Intn(most+1)), left: all,
	}
}
