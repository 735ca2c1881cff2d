package tcp_test

import (
	"math/rand"
	"strings"
	"testing"

	"palanquin/tcp"
)

const mss1460 = "\x02\x04\x05\xb4"

// option is one of a kind, of so many bytes, at least two, without kinds that mean anything within.
func option(kind byte, size int) string {
	return string([]byte{kind, byte(size)}) + strings.Repeat("\xee", size-2)
}

// P7.2: the chapter's example.
func TestExample(t *testing.T) {
	mustTell(t, "example", mss1460, true, 1460, 2, true)
}

// P7.2: no options are right, and tell no MSS.
func TestNoOptions(t *testing.T) {
	mustTell(t, "none", "", true, 0, 0, false)
}

// P7.2: the MSS's number, of two bytes, the highest first; 0 is one too.
func TestEveryMSS(t *testing.T) {
	for n := range 65536 {
		options := "\x01\x02\x04" + string([]byte{byte(n / 256), byte(n % 256)})
		if got, at, ok := tcp.MSS(options); got != n || at != 3 || !ok {
			t.Fatalf("MSS %d: %d, %d, %v", n, got, at, ok)
		}
	}
}

// P7.2: every kind by itself as the only and last byte: but for the two that have one byte, it goes behind the end.
func TestEveryKindAsTheLastByte(t *testing.T) {
	for kind := range 256 {
		for _, ahead := range []string{"", "\x01", "\x01\x01\x01", option(3, 3), mss1460, option(5, 10)} {
			options := ahead + string([]byte{byte(kind)})
			if kind > 1 {
				mustBeWrong(t, "last byte", options)
			} else if ahead == mss1460 {
				mustTell(t, "last byte", options, true, 1460, 2, true)
			} else {
				mustTell(t, "last byte", options, true, 0, 0, false)
			}
		}
	}
}

// P7.2: every kind with every number of bytes said, in options that have as many, fewer and more.
func TestEveryKindAndSize(t *testing.T) {
	for kind := 2; kind < 256; kind++ {
		for said := range 256 {
			for _, length := range []int{2, 3, 4, 5, said - 1, said, said + 1, 257} {
				if length < 2 {
					continue
				}
				options := string([]byte{byte(kind), byte(said)}) + strings.Repeat("\x01", length-2)
				want := said >= 2 && said <= length
				if got := tcp.Right(options); got != want {
					t.Fatalf("kind %d, says %d, has %d: %v", kind, said, length, got)
				}
				n, at, ok := tcp.MSS(options)
				if tells := want && kind == 2 && said == 4; ok != tells || tells && (n != 0x0101 || at != 2) || !tells && (n != 0 || at != 0) {
					t.Fatalf("kind %d, says %d, has %d: %d, %d, %v", kind, said, length, n, at, ok)
				}
			}
		}
	}
}

// P7.2: options that say 0 or 1 bytes are wrong, wherever they stand.
func TestOptionsThatSayTooLittle(t *testing.T) {
	for _, said := range []string{"\x00", "\x01"} {
		for _, kind := range []string{"\x02", "\x03", "\x08", "\xff"} {
			for _, behind := range []string{"", "\x00", "\x01", mss1460, "\x00\x00\x00\x00"} {
				for _, ahead := range []string{"", "\x01", mss1460, option(4, 2)} {
					mustBeWrong(t, "too little", ahead+kind+said+behind)
				}
			}
		}
	}
}

// P7.2: options that go just to the end are right, those that go one byte behind it are not.
func TestOptionsAtTheEnd(t *testing.T) {
	for size := 2; size < 256; size++ {
		for _, ahead := range []string{"", "\x01", option(8, 10)} {
			mustTell(t, "to the end", ahead+option(7, size), true, 0, 0, false)
			mustBeWrong(t, "behind the end", ahead+option(7, size)[:size-1])
			mustBeWrong(t, "behind the end, with an MSS ahead", mss1460+ahead+option(7, size)[:size-1])
		}
	}
}

// P7.2: a byte 0 ends the options, whatever stands behind it; an MSS there isn't walked.
func TestOptionsThatEnd(t *testing.T) {
	for _, behind := range []string{"", "\x00", "\x01", "\x02", "\x05\x00", "\x05\x01", "\xff\xff", mss1460, "\x02\x04", mss1460 + "\x09", strings.Repeat("\xff", 300)} {
		mustTell(t, "at once", "\x00"+behind, true, 0, 0, false)
		mustTell(t, "behind a blank", "\x01\x00"+behind, true, 0, 0, false)
		mustTell(t, "behind another", option(3, 3)+"\x00"+behind, true, 0, 0, false)
		mustTell(t, "behind an MSS", mss1460+"\x00"+behind, true, 1460, 2, true)
		mustBeWrong(t, "behind a wrong one", "\x03\x01\x00"+behind)
	}
}

// P7.2: a byte 0 within an option is a byte of it, and ends nothing; so is a byte 1, and what looks like an MSS.
func TestBytesWithinAnOption(t *testing.T) {
	mustTell(t, "noughts", "\x08\x05\x00\x00\x00"+mss1460, true, 1460, 7, true)
	mustTell(t, "noughts, then a wrong one", "\x08\x05\x00\x00\x00\x09", false, 0, 0, false)
	mustTell(t, "ones", "\x08\x05\x01\x01\x01"+mss1460, true, 1460, 7, true)
	mustTell(t, "an MSS", "\x08\x06"+mss1460+"\x01", true, 0, 0, false)
	mustTell(t, "an MSS, then one", "\x08\x06\x02\x04\x11\x11"+mss1460, true, 1460, 8, true)
	mustTell(t, "an MSS of noughts", "\x02\x04\x00\x00", true, 0, 2, true)
	mustTell(t, "an MSS of ones, then a wrong one", "\x02\x04\x01\x01\x03", false, 0, 0, false)
}

// P7.2: a byte 1 at every place: between options it is one by itself, within one a byte of it.
func TestBlankAtEveryPlace(t *testing.T) {
	parts := []string{option(4, 2), mss1460, option(3, 3), option(8, 10)}
	for blanks := range 5 {
		for place := range len(parts) + 1 {
			between := strings.Repeat("\x01", blanks)
			at := 4
			if place <= 1 {
				at += blanks
			}
			options := strings.Join(parts[:place], "") + between + strings.Join(parts[place:], "")
			mustTell(t, "between", options, true, 1460, at, true)
		}
	}
	whole := strings.Join(parts, "")
	for at := range len(whole) + 1 {
		mustWalk(t, whole[:at]+"\x01"+whole[at:])
	}
	for at := range whole {
		mustWalk(t, withByte(whole, at, 1))
		mustWalk(t, withByte(whole, at, 0))
	}
	for n := range 100 {
		blanks := strings.Repeat("\x01", n)
		mustTell(t, "nothing but blanks", blanks, true, 0, 0, false)
		mustTell(t, "blanks ahead", blanks+mss1460, true, 1460, n+2, true)
	}
}

// P7.2: an option of the kind 2 that has not four bytes is no MSS, and one behind it is.
func TestKindTwoOfOtherSizes(t *testing.T) {
	for size := 2; size < 256; size++ {
		if size == 4 {
			continue
		}
		mustTell(t, "alone", option(2, size), true, 0, 0, false)
		mustTell(t, "ahead", option(2, size)+mss1460, true, 1460, size+2, true)
		mustTell(t, "two ahead", option(2, size)+option(2, 3)+mss1460, true, 1460, size+5, true)
		mustTell(t, "behind", mss1460+option(2, size), true, 1460, 2, true)
	}
}

// P7.2: an option of four bytes that isn't of the kind 2 is no MSS, and one behind it is.
func TestFourBytesOfOtherKinds(t *testing.T) {
	for kind := 3; kind < 256; kind++ {
		four := option(byte(kind), 4)
		mustTell(t, "alone", four, true, 0, 0, false)
		mustTell(t, "ahead", four+mss1460, true, 1460, 6, true)
		mustTell(t, "behind", mss1460+four, true, 1460, 2, true)
	}
}

// P7.2: of two the first is told, whichever is greater.
func TestTwoOfThem(t *testing.T) {
	for _, between := range []string{"", "\x01", option(3, 3), option(2, 5)} {
		mustTell(t, "less first", "\x02\x04\x00\x01"+between+mss1460, true, 1, 2, true)
		mustTell(t, "greater first", "\x02\x04\xff\xff"+between+mss1460, true, 65535, 2, true)
		mustTell(t, "behind one", option(4, 2)+mss1460+between+"\x02\x04\x11\x11", true, 1460, 4, true)
	}
}

// P7.2: one ahead of options that aren't right isn't told.
func TestOneAheadOfWrongOptions(t *testing.T) {
	for _, wrong := range []string{"\x02", "\x03", "\xff", "\x03\x00", "\x03\x01", "\x03\x03", "\x02\x04\x05", "\x02\x04", "\xff\xff\x00", "\x01\x01\x08\x0a\x00"} {
		mustBeWrong(t, "ahead", mss1460+wrong)
		mustBeWrong(t, "two ahead", mss1460+mss1460+wrong)
		mustBeWrong(t, "ahead, with more between", mss1460+"\x01"+option(8, 10)+wrong)
		mustTell(t, "ahead, with an end between", mss1460+"\x00"+wrong, true, 1460, 2, true)
	}
}

// P7.2: options longer than a segment's are walked too, and a place may be far off.
func TestLongOptions(t *testing.T) {
	for _, n := range []int{41, 255, 256, 257, 65535, 65536, 1 << 18} {
		blanks := strings.Repeat("\x01", n)
		mustTell(t, "blanks", blanks+mss1460, true, 1460, n+2, true)
		mustBeWrong(t, "blanks, then a wrong one", mss1460+blanks+"\x07")
		longest := strings.Repeat(option(9, 255), n/255)
		mustTell(t, "the longest", longest+mss1460, true, 1460, len(longest)+2, true)
	}
}

// P7.2: all options of up to six bytes out of the few that mean something.
func TestAllSmallOptions(t *testing.T) {
	signs := "\x00\x01\x02\x03\x04\x05"
	right, wrong := 0, 0
	var grow func(options string)
	grow = func(options string) {
		if mustWalk(t, options) {
			right++
		} else {
			wrong++
		}
		if len(options) < 6 {
			for i := range signs {
				grow(options + signs[i:i+1])
			}
		}
	}
	grow("")
	if right < 1000 || wrong < 1000 {
		t.Errorf("%d right, %d wrong", right, wrong)
	}
}

// P7.2: drawn options, right and turned at a place or two, held against the slow walk.
func TestWalkDrawn(t *testing.T) {
	draw := rand.New(rand.NewSource(73))
	for range 50000 {
		options := drawnOptions(draw)
		if !mustWalk(t, options) {
			t.Fatalf("%s is wrong", shown(options))
		}
		for range draw.Intn(3) {
			if options != "" {
				options = withByte(options, draw.Intn(len(options)), byte(draw.Intn(12)))
			}
		}
		mustWalk(t, options)
		mustWalk(t, drawnText(draw, draw.Intn(50)))
	}
}

// P7.2: the same call answers the same, whatever was called between.
func TestWalkTwice(t *testing.T) {
	for range 3 {
		mustTell(t, "one", "\x01"+mss1460, true, 1460, 3, true)
		mustBeWrong(t, "wrong", "\x05")
	}
}
