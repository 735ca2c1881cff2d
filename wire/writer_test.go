package wire_test

import (
	"math"
	"strings"
	"testing"

	"palanquin/wire"
)

// P1.2: the zero Writer has written nothing, and writing nothing leaves it so.
func TestZeroWriter(t *testing.T) {
	var w wire.Writer
	for range 2 {
		if w.Len() != 0 || w.String() != "" {
			t.Errorf("%d bytes: %q", w.Len(), w.String())
		}
		w.Text("")
	}
}

// P1.2: of U8 and U16 the lowest bytes are written, however wide or negative the number; of U32 and U64 all.
func TestWriteNumbers(t *testing.T) {
	u8 := func(n int) func(w *wire.Writer) { return func(w *wire.Writer) { w.U8(n) } }
	u16 := func(n int) func(w *wire.Writer) { return func(w *wire.Writer) { w.U16(n) } }
	u32 := func(n uint32) func(w *wire.Writer) { return func(w *wire.Writer) { w.U32(n) } }
	u64 := func(n uint64) func(w *wire.Writer) { return func(w *wire.Writer) { w.U64(n) } }
	for i, x := range []struct {
		write func(w *wire.Writer)
		want  string
	}{
		{u8(0), "\x00"}, {u8(1), "\x01"}, {u8(127), "\x7f"}, {u8(128), "\x80"}, {u8(255), "\xff"},
		{u8(256), "\x00"}, {u8(0x1234), "\x34"}, {u8(-1), "\xff"}, {u8(-256), "\x00"}, {u8(math.MaxInt), "\xff"}, {u8(math.MinInt), "\x00"},
		{u16(0), "\x00\x00"}, {u16(1), "\x00\x01"}, {u16(0x1234), "\x12\x34"}, {u16(65535), "\xff\xff"},
		{u16(65536), "\x00\x00"}, {u16(0x123456), "\x34\x56"}, {u16(-1), "\xff\xff"}, {u16(-65535), "\x00\x01"}, {u16(math.MaxInt), "\xff\xff"}, {u16(math.MinInt), "\x00\x00"},
		{u32(0), "\x00\x00\x00\x00"}, {u32(0x01020304), "\x01\x02\x03\x04"}, {u32(1 << 31), "\x80\x00\x00\x00"}, {u32(math.MaxUint32), "\xff\xff\xff\xff"},
		{u64(0), "\x00\x00\x00\x00\x00\x00\x00\x00"}, {u64(0x0102030405060708), "\x01\x02\x03\x04\x05\x06\x07\x08"},
		{u64(1 << 63), "\x80\x00\x00\x00\x00\x00\x00\x00"}, {u64(math.MaxUint64), "\xff\xff\xff\xff\xff\xff\xff\xff"},
	} {
		var w wire.Writer
		x.write(&w)
		if w.String() != x.want || w.Len() != len(x.want) {
			t.Errorf("%d: %d bytes %q, not %q", i, w.Len(), w.String(), x.want)
		}
	}
}

// P1.2: a text is written byte by byte, whether its bytes are letters or not.
func TestWriteText(t *testing.T) {
	for _, s := range []string{"", "abc", "\x00", "\x00\xff\x80\n", "\xc3\x28", "\u00e9", strings.Repeat("long", 5000)} {
		var w wire.Writer
		w.Text("<")
		w.Text(s)
		w.Text(">")
		if w.String() != "<"+s+">" || w.Len() != len(s)+2 {
			t.Errorf("%d bytes for %d", w.Len(), len(s)+2)
		}
	}
}

// P1.2: String and Len may be asked at any time; what they answered stays, and they write nothing.
func TestWriterAskedBetween(t *testing.T) {
	var w wire.Writer
	var told []string
	want := ""
	for i := range 200 {
		w.U8(i)
		want += string([]byte{byte(i)})
		told = append(told, w.String())
		if w.Len() != i+1 || w.String() != want {
			t.Fatalf("behind %d: %d bytes %q", i, w.Len(), w.String())
		}
	}
	for i, s := range told {
		if s != want[:i+1] {
			t.Fatalf("what was told behind %d became %q", i, s)
		}
	}
}

// P1.2: two writers have nothing in common.
func TestTwoWriters(t *testing.T) {
	var a, b wire.Writer
	for range 20 {
		a.Text("a")
		b.U16('b')
	}
	if a.String() != strings.Repeat("a", 20) || b.String() != strings.Repeat("\x00b", 20) {
		t.Errorf("%q, %q", a.String(), b.String())
	}
}
