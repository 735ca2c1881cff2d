package crc_test

import (
	"hash/crc32"
	"math"
	"strings"
	"testing"

	"palanquin/crc"
)

// slow is the chapter's word for word: byte by byte, bit by bit, with a register that is handed in.
func slow(register uint32, text string) uint32 {
	for i := range len(text) {
		register ^= uint32(text[i])
		for range 8 {
			fell := register % 2
			register /= 2
			if fell == 1 {
				register ^= 0x82f63b78
			}
		}
	}
	return register
}

func slowSum(parts ...string) uint32 {
	return math.MaxUint32 - slow(math.MaxUint32, strings.Join(parts, ""))
}

func slowUpdate(sum uint32, s string) uint32 {
	return math.MaxUint32 - slow(math.MaxUint32-sum, s)
}

// draws tells the same numbers at every run.
func draws(seed uint64) func() uint32 {
	return func() uint32 {
		seed = seed*6364136223846793005 + 1442695040888963407
		return uint32(seed >> 32)
	}
}

func drawnText(draw func() uint32, length int) string {
	text := make([]byte, length)
	for i := range text {
		text[i] = byte(draw() >> 11)
	}
	return string(text)
}

// P3.1: the chapter's example, and sums that are told elsewhere (RFC 3720, B.4).
func TestSumOfKnownTexts(t *testing.T) {
	rising, falling := "", ""
	for i := range 32 {
		rising += string([]byte{byte(i)})
		falling += string([]byte{byte(31 - i)})
	}
	for _, c := range []struct {
		name, text string
		want       uint32
	}{
		{"the chapter's", "123456789", 0xe3069283},
		{"one letter", "a", 0xc1d04330},
		{"32 bytes 00", strings.Repeat("\x00", 32), 0x8a9136aa},
		{"32 bytes FF", strings.Repeat("\xff", 32), 0x62a8ab43},
		{"rising", rising, 0x46dd794e},
		{"falling", falling, 0x113fdb5c},
		{"bytes that turn the whole register to 0", "\xff\xff\xff\xff", 0xffffffff},
	} {
		if got := crc.Sum(c.text); got != c.want {
			t.Errorf("%s: %08x, want %08x", c.name, got, c.want)
		}
	}
}

// P3.1: no part at all, and parts that are empty, are the empty text.
func TestSumOfNothing(t *testing.T) {
	for _, parts := range [][]string{nil, {}, {""}, {"", "", ""}} {
		if got := crc.Sum(parts...); got != 0 {
			t.Errorf("%q: %08x", parts, got)
		}
	}
	if got := crc.Update(0, ""); got != 0 {
		t.Errorf("Update: %08x", got)
	}
}

// P3.1: each byte there is, alone and behind another.
func TestSumOfEachByte(t *testing.T) {
	for i := range 256 {
		one := string([]byte{byte(i)})
		for _, text := range []string{one, "\x00" + one, "\xff" + one, one + one} {
			if got, want := crc.Sum(text), slowSum(text); got != want {
				t.Errorf("%q: %08x, want %08x", text, got, want)
			}
		}
	}
}

// P3.1: a text tells the same sum wherever it is cut, with empty parts ahead, between and behind.
func TestSumOfPartsCutAnywhere(t *testing.T) {
	text := "\x00\x01\xf2\x00\xc3\xa9\xf6\xff\x81\x00"
	want := slowSum(text)
	for i := range len(text) + 1 {
		if got := crc.Update(crc.Sum(text[:i]), text[i:]); got != want {
			t.Errorf("Update behind %d: %08x, want %08x", i, got, want)
		}
		for j := i; j <= len(text); j++ {
			for _, parts := range [][]string{
				{text[:i], text[i:j], text[j:]},
				{"", text[:i], "", "", text[i:j], text[j:], ""},
			} {
				if got := crc.Sum(parts...); got != want {
					t.Errorf("%q: %08x, want %08x", parts, got, want)
				}
			}
			if got := crc.Update(crc.Update(crc.Sum(text[:i]), text[i:j]), text[j:]); got != want {
				t.Errorf("Update behind %d and %d: %08x, want %08x", i, j, got, want)
			}
		}
	}
}

// P3.1: which part comes first is seen, and so is each byte 00, wherever it stands.
func TestSumOfPartsInOrder(t *testing.T) {
	if crc.Sum("ab", "cd") == crc.Sum("cd", "ab") {
		t.Error("parts in another order have one sum")
	}
	seen := map[uint32]string{}
	for _, text := range []string{"", "\x00", "\x00\x00", "\x00\x00\x00", "a", "a\x00", "\x00a", "\x00a\x00", "a\x00\x00"} {
		sum := crc.Sum(text)
		if other, ok := seen[sum]; ok {
			t.Errorf("%q and %q have one sum", text, other)
		}
		seen[sum] = text
	}
}

func TestSumOfDrawnParts(t *testing.T) {
	draw := draws(1)
	for range 3000 {
		parts := make([]string, draw()%6)
		for i := range parts {
			parts[i] = drawnText(draw, int(draw()%50))
		}
		if got, want := crc.Sum(parts...), slowSum(parts...); got != want {
			t.Fatalf("%q: %08x, want %08x", parts, got, want)
		}
	}
}

// P3.1: long texts, whole, in two parts, and byte by byte; the library's own sum is the witness.
func TestSumOfLongTexts(t *testing.T) {
	table := crc32.MakeTable(crc32.Castagnoli)
	for _, length := range []int{255, 256, 257, 65534, 65535, 65536, 1 << 20, 1<<20 + 1} {
		text := drawnText(draws(uint64(length)), length)
		want := crc32.Checksum([]byte(text), table)
		cut := length / 3
		if got := crc.Sum(text); got != want {
			t.Errorf("%d bytes: %08x, want %08x", length, got, want)
		}
		if got := crc.Sum(text[:cut], text[cut:]); got != want {
			t.Errorf("%d bytes in two parts: %08x, want %08x", length, got, want)
		}
		if got := crc.Update(crc.Sum(text[:cut]), text[cut:]); got != want {
			t.Errorf("%d bytes by Update: %08x, want %08x", length, got, want)
		}
	}
	text := drawnText(draws(2), 65536)
	if got, want := crc.Sum(strings.Split(text, "")...), crc32.Checksum([]byte(text), table); got != want {
		t.Errorf("byte by byte: %08x, want %08x", got, want)
	}
}

// P3.1: Update takes any number for a sum, whether a text is known that has it or not.
func TestUpdateOfAnySum(t *testing.T) {
	draw := draws(3)
	sums := []uint32{0, 1, 0x7fffffff, 0x80000000, 0x82f63b78, 0xe3069283, 0xfffffffe, 0xffffffff}
	for range 500 {
		sums = append(sums, draw())
	}
	for _, sum := range sums {
		if got := crc.Update(sum, ""); got != sum {
			t.Errorf("%08x and nothing behind: %08x", sum, got)
		}
		for _, s := range []string{"\x00", "\xff", "123456789", drawnText(draw, int(draw()%40))} {
			if got, want := crc.Update(sum, s), slowUpdate(sum, s); got != want {
				t.Errorf("%08x and %q: %08x, want %08x", sum, s, got, want)
			}
		}
	}
}

// P3.1: a sum that is handed in stands for any text that has it, whatever its length.
func TestUpdateBehindUnlikeTextsOfOneSum(t *testing.T) {
	// The second and third text have the sum of the first one: 0, as the empty text has.
	for _, text := range []string{"", "\xff\xff\xff\xff" + turnedBack("\xff\xff\xff\xff"), "long" + turnedBack("long")} {
		if got := crc.Sum(text); got != 0 {
			t.Fatalf("%q: %08x", text, got)
		}
		if got, want := crc.Sum(text, "behind"), crc.Sum("behind"); got != want {
			t.Errorf("%q: %08x, want %08x", text, got, want)
		}
	}
}

// turnedBack answers four bytes behind which the register is all ones again: what the register has, turned over by what
// goes to all ones within four bytes.
func turnedBack(text string) string {
	register := slow(math.MaxUint32, text)
	need := uint32(math.MaxUint32)
	for range 32 {
		fell := need >> 31 // the turner's highest bit is 1, and a register that was moved has a 0 there
		if fell == 1 {
			need ^= 0x82f63b78
		}
		need = need<<1 | fell
	}
	need ^= register
	return string([]byte{byte(need), byte(need >> 8), byte(need >> 16), byte(need >> 24)})
}

// Rules 3 and 4: parts stay as they were, and no call hangs on one before it.
func TestPartsStayAsTheyWere(t *testing.T) {
	parts := []string{"\x01", "\x02\x03", "spare"}
	first := crc.Sum(parts[:2]...)
	crc.Update(first, "other")
	crc.Sum("other")
	if parts[0] != "\x01" || parts[1] != "\x02\x03" || parts[2] != "spare" {
		t.Errorf("changed: %q", parts)
	}
	if again := crc.Sum(parts[:2]...); again != first {
		t.Errorf("%08x, then %08x", first, again)
	}
}
