// Package wire is layer 1: see shared/doc/01-wire.md.
package wire

import "palanquin/api"

// stop is a type of its own, so that Read can tell a reading that was stopped from any other panic.
type stop struct{ err api.Errno }

// Reader is what is left of a text.
type Reader struct {
	text string
	at   int
}

// Read hands do a reader ahead of s, and answers with what it was stopped.
func Read(s string, do func(r *Reader)) (err api.Errno) {
	defer func() {
		caught := recover()
		if caught == nil {
			return
		}
		stopped, ok := caught.(stop)
		if !ok {
			panic(caught) // a fault of do's, which must not pass for a short text
		}
		err = stopped.err
	}()
	do(&Reader{text: s})
	return api.OK
}

// U8: a number of one byte.
func (r *Reader) U8() int { return int(r.number(1)) }

// U16: of two.
func (r *Reader) U16() int { return int(r.number(2)) }

// U32: of four.
func (r *Reader) U32() uint32 { return uint32(r.number(4)) }

// U64: of eight.
func (r *Reader) U64() uint64 { return r.number(8) }

// Take: the next n bytes.
func (r *Reader) Take(n int) string {
	// n is held against what is left, since at+n might wrap round.
	r.Need(n >= 0 && n <= r.Left(), api.ErrShort)
	taken := r.text[r.at : r.at+n]
	r.at += n
	return taken
}

// Rest: all that is left.
func (r *Reader) Rest() string { return r.Take(r.Left()) }

// Left: how many bytes are left.
func (r *Reader) Left() int { return len(r.text) - r.at }

// At: how many were read.
func (r *Reader) At() int { return r.at }

// Need stops the reading with e, unless ok.
func (r *Reader) Need(ok bool, e api.Errno) {
	if !ok {
		panic(stop{e})
	}
}

func (r *Reader) number(size int) uint64 {
	n := uint64(0)
	for _, b := range []byte(r.Take(size)) {
		n = n<<8 | uint64(b)
	}
	return n
}

// Writer is what was written; the zero one is ready.
type Writer struct{ text []byte }

// U8: a number by its lowest byte.
func (w *Writer) U8(n int) { w.number(uint64(n), 1) }

// U16: by its lowest two.
func (w *Writer) U16(n int) { w.number(uint64(n), 2) }

// U32: by four.
func (w *Writer) U32(n uint32) { w.number(uint64(n), 4) }

// U64: by eight.
func (w *Writer) U64(n uint64) { w.number(n, 8) }

// Text: bytes as they are.
func (w *Writer) Text(s string) { w.text = append(w.text, s...) }

// Len: how many bytes were written.
func (w *Writer) Len() int { return len(w.text) }

// String: all that was written.
func (w *Writer) String() string { return string(w.text) }

func (w *Writer) number(n uint64, size int) {
	for i := range size {
		w.text = append(w.text, byte(n>>(8*(size-1-i))))
	}
}
