package wire_test

import (
	"math"
	"math/rand"
	"strings"
	"testing"

	"palanquin/api"
	"palanquin/wire"
)

// P1.1: the chapter's own example.
func TestReadExample(t *testing.T) {
	done := false
	e := wire.Read("\x01\x02\x03", func(r *wire.Reader) {
		if n := r.U8(); n != 1 {
			t.Errorf("U8 %d", n)
		}
		if n := r.U16(); n != 515 {
			t.Errorf("U16 %d", n)
		}
		r.U8()
		done = true
	})
	if e != api.ErrShort || done {
		t.Errorf("error %d, done %v", e, done)
	}
}

// P1.1: the highest byte comes first, and the highest bit is no sign.
func TestReadNumbers(t *testing.T) {
	for _, x := range []struct {
		text string
		want uint64
	}{
		{"\x00", 0}, {"\x7f", 127}, {"\x80", 128}, {"\xff", 255},
		{"\x00\x00", 0}, {"\x00\x01", 1}, {"\x01\x00", 256}, {"\x80\x00", 32768}, {"\xff\xfe", 65534}, {"\xff\xff", 65535},
		{"\x00\x00\x00\x00", 0}, {"\x01\x02\x03\x04", 0x01020304}, {"\x80\x00\x00\x01", 0x80000001}, {"\xff\xff\xff\xff", math.MaxUint32},
		{"\x00\x00\x00\x00\x00\x00\x00\x00", 0}, {"\x01\x02\x03\x04\x05\x06\x07\x08", 0x0102030405060708},
		{"\x80\x00\x00\x00\x00\x00\x00\x01", 1<<63 + 1}, {"\xff\xff\xff\xff\xff\xff\xff\xff", math.MaxUint64},
	} {
		for _, behind := range []string{"", "\xaa\xbb"} {
			e := wire.Read("\x55"+x.text+behind, func(r *wire.Reader) {
				r.Take(1)
				if n := readNumber(r, len(x.text)); n != x.want {
					t.Errorf("%q: %d, not %d", x.text, n, x.want)
				}
				if r.At() != 1+len(x.text) || r.Left() != len(behind) || r.Rest() != behind {
					t.Errorf("%q: at %d, left %d", x.text, r.At(), r.Left())
				}
			})
			if e != api.OK {
				t.Errorf("%q: error %d", x.text, e)
			}
		}
	}
}

func readNumber(r *wire.Reader, size int) uint64 {
	switch size {
	case 1:
		return uint64(r.U8())
	case 2:
		return uint64(r.U16())
	case 4:
		return uint64(r.U32())
	}
	return r.U64()
}

// P1.1: a number is read where just enough bytes are left, and stops where fewer are, the empty text among them.
func TestReadNumbersShort(t *testing.T) {
	for _, size := range []int{1, 2, 4, 8} {
		for ahead := range 3 {
			for left := range 10 {
				done := false
				e := wire.Read(strings.Repeat("\x01", ahead+left), func(r *wire.Reader) {
					r.Take(ahead)
					readNumber(r, size)
					done = true
				})
				want := api.OK
				if left < size {
					want = api.ErrShort
				}
				if e != want || done != (want == api.OK) {
					t.Errorf("size %d, left %d: error %d, done %v", size, left, e, done)
				}
			}
		}
	}
}

// P1.1: Take stops below 0 and behind the end, however far.
func TestTake(t *testing.T) {
	const text = "ab\x00\xffe"
	for _, ahead := range []int{0, 2, len(text)} {
		left := len(text) - ahead
		for _, n := range []int{0, 1, 2, 3, 4, 5, 6, 7, -1, -2, -5, -6, math.MaxInt, math.MaxInt - 1, math.MinInt, math.MinInt + 1, 1 << 32, -1 << 32} {
			want, right := "", n >= 0 && n <= left
			if right {
				want = text[ahead : ahead+n]
			}
			done := false
			e := wire.Read(text, func(r *wire.Reader) {
				r.Take(ahead)
				if got := r.Take(n); got != want {
					t.Errorf("Take(%d) behind %d: %q", n, ahead, got)
				}
				if r.At() != ahead+n || r.Left() != left-n {
					t.Errorf("Take(%d) behind %d: at %d, left %d", n, ahead, r.At(), r.Left())
				}
				done = true
			})
			if done != right || (e == api.OK) != right || !right && e != api.ErrShort {
				t.Errorf("Take(%d) behind %d: error %d, done %v", n, ahead, e, done)
			}
		}
	}
}

// P1.1: Rest has all that is left, once; Left and At read nothing.
func TestRest(t *testing.T) {
	for _, text := range []string{"", "a", "\x00\xff\x80", "a longer text"} {
		for ahead := range len(text) + 1 {
			e := wire.Read(text, func(r *wire.Reader) {
				r.Take(ahead)
				for range 2 {
					if r.At() != ahead || r.Left() != len(text)-ahead {
						t.Errorf("%q behind %d: at %d, left %d", text, ahead, r.At(), r.Left())
					}
				}
				if s := r.Rest(); s != text[ahead:] {
					t.Errorf("%q behind %d: %q", text, ahead, s)
				}
				if s := r.Rest(); s != "" || r.At() != len(text) || r.Left() != 0 || r.Take(0) != "" {
					t.Errorf("%q behind its end: %q", text, s)
				}
			})
			if e != api.OK {
				t.Errorf("%q behind %d: error %d", text, ahead, e)
			}
		}
	}
}

// P1.1: do is called once, also for the empty text, and may leave bytes unread.
func TestReadCallsOnce(t *testing.T) {
	for _, text := range []string{"", "abc"} {
		calls := 0
		e := wire.Read(text, func(r *wire.Reader) {
			calls++
			if r.At() != 0 || r.Left() != len(text) {
				t.Errorf("%q: at %d, left %d", text, r.At(), r.Left())
			}
		})
		if e != api.OK || calls != 1 {
			t.Errorf("%q: error %d, %d calls", text, e, calls)
		}
	}
}

// P1.1: Need stops with its error, unless ok; nothing behind it is done.
func TestNeed(t *testing.T) {
	for e := api.ErrRange; e <= api.ErrMode; e++ {
		steps := ""
		got := wire.Read("abc", func(r *wire.Reader) {
			r.Need(true, e)
			steps += r.Take(1)
			r.Need(r.U8() == 'b', e)
			steps += "b"
			r.Need(r.Left() == 0, e)
			steps += r.Rest()
		})
		if got != e || steps != "ab" {
			t.Errorf("error %d, not %d; steps %q", got, e, steps)
		}
	}
}

// P1.1: the error is that of the first stop, whether Need or a short text is met first.
func TestFirstStop(t *testing.T) {
	if e := wire.Read("a", func(r *wire.Reader) { r.U16(); r.Need(false, api.ErrForm) }); e != api.ErrShort {
		t.Errorf("short ahead of Need: %d", e)
	}
	if e := wire.Read("a", func(r *wire.Reader) { r.Need(false, api.ErrForm); r.U16() }); e != api.ErrForm {
		t.Errorf("Need ahead of short: %d", e)
	}
	if e := wire.Read("a", func(r *wire.Reader) { r.Need(false, api.ErrSum); r.Need(false, api.ErrForm) }); e != api.ErrSum {
		t.Errorf("two Needs: %d", e)
	}
}

// P1.1: a stop deep in do's own calls and loops ends all of do.
func TestStopFromWithin(t *testing.T) {
	read := 0
	var walk func(r *wire.Reader)
	walk = func(r *wire.Reader) {
		for range 2 {
			r.U8()
			read++
			walk(r)
		}
		t.Error("a walk came to its end")
	}
	if e := wire.Read("abcde", walk); e != api.ErrShort || read != 5 {
		t.Errorf("error %d, %d read", e, read)
	}
}

// P1.1: a reading within another one stops by itself, and leaves the outer one where it was.
func TestReadWithin(t *testing.T) {
	e := wire.Read("\x02ab\x01c", func(r *wire.Reader) {
		inner := wire.Read(r.Take(r.U8()), func(r *wire.Reader) { r.U32() })
		if inner != api.ErrShort || r.At() != 3 {
			t.Errorf("inner error %d, at %d", inner, r.At())
		}
		inner = wire.Read(r.Take(r.U8()), func(r *wire.Reader) { r.Need(r.Rest() == "c", api.ErrForm) })
		if inner != api.OK || r.Left() != 0 {
			t.Errorf("inner error %d, left %d", inner, r.Left())
		}
		r.Need(false, api.ErrSign)
	})
	if e != api.ErrSign {
		t.Errorf("outer error %d", e)
	}
}

// P1.1: no reading hangs on one before it.
func TestReadAfterStop(t *testing.T) {
	for range 3 {
		if e := wire.Read("ab", func(r *wire.Reader) { r.U32() }); e != api.ErrShort {
			t.Errorf("short: %d", e)
		}
		if e := wire.Read("ab", func(r *wire.Reader) { r.U16() }); e != api.OK {
			t.Errorf("whole: %d", e)
		}
	}
}

// Ways of layer 1: panics that are no stop go on, those with an error's number among them.
func TestOtherPanicsGoOn(t *testing.T) {
	for _, x := range []any{"a text", api.ErrShort, 2, struct{ err api.Errno }{api.ErrShort}} {
		if got := panicOf(func(*wire.Reader) { panic(x) }); got != x {
			t.Errorf("panic %v became %v", x, got)
		}
	}
	var none []int
	if got := panicOf(func(r *wire.Reader) { _ = none[r.At()] }); got == nil {
		t.Error("the runtime's panic was swallowed")
	}
}

func panicOf(do func(r *wire.Reader)) (got any) {
	defer func() { got = recover() }()
	wire.Read("abc", do)
	return nil
}

// P1.1 and P1.2: whatever is written, in whatever order, is read as it was.
func TestWrittenIsRead(t *testing.T) {
	draws := rand.New(rand.NewSource(1))
	for range 300 {
		var w wire.Writer
		var reads []func(r *wire.Reader) bool
		size := 0
		for range draws.Intn(30) {
			read, n := writeOne(&w, draws)
			reads, size = append(reads, read), size+n
			if w.Len() != size || len(w.String()) != size {
				t.Fatalf("%d bytes, not %d", w.Len(), size)
			}
		}
		e := wire.Read(w.String(), func(r *wire.Reader) {
			for i, read := range reads {
				if !read(r) {
					t.Errorf("item %d of %q", i, w.String())
				}
			}
			r.Need(r.Left() == 0 && r.At() == size, api.ErrLength)
		})
		if e != api.OK {
			t.Errorf("%q: error %d", w.String(), e)
		}
	}
}

// writeOne writes a drawn item, and answers how to hold it against a reader, and how many bytes it has.
func writeOne(w *wire.Writer, draws *rand.Rand) (func(r *wire.Reader) bool, int) {
	n := draws.Uint64()
	switch draws.Intn(5) {
	case 0:
		w.U8(int(n))
		return func(r *wire.Reader) bool { return r.U8() == int(n%(1<<8)) }, 1
	case 1:
		w.U16(int(n))
		return func(r *wire.Reader) bool { return r.U16() == int(n%(1<<16)) }, 2
	case 2:
		w.U32(uint32(n))
		return func(r *wire.Reader) bool { return r.U32() == uint32(n) }, 4
	case 3:
		w.U64(n)
		return func(r *wire.Reader) bool { return r.U64() == n }, 8
	}
	b := make([]byte, n%20)
	draws.Read(b)
	w.Text(string(b))
	return func(r *wire.Reader) bool { return r.Take(len(b)) == string(b) }, len(b)
}
