package crc_test

import (
	"math/bits"
	"strings"
	"testing"

	"palanquin/crc"
)

const longest = 500

// flipped answers text with those bits turned over. A byte's lowest bit comes first, as it goes through the register.
func flipped(text string, at ...int) string {
	b := []byte(text)
	for _, i := range at {
		b[i/8] ^= 1 << (i % 8)
	}
	return string(b)
}

// within answers text with a pattern turned over in 32 bits on end, the first of them at a place.
func within(text string, at int, pattern uint32) string {
	b := []byte(text)
	for i := range 32 {
		if pattern>>i&1 == 1 {
			b[(at+i)/8] ^= 1 << ((at + i) % 8)
		}
	}
	return string(b)
}

func someTexts(length int) []string {
	return []string{strings.Repeat("\x00", length), strings.Repeat("\xff", length), drawnText(draws(uint64(length)), length)}
}

// ends answers places of bits at both ends and in the middle of a text of so many bits, each with n on end.
func ends(all, n int) []int {
	var places []int
	for _, first := range []int{0, (all - n) / 2, all - n} {
		for i := range n {
			places = append(places, first+i)
		}
	}
	return places
}

// P3.2: one bit and two bits, in every place of the longest texts there are: a text, and all those that differ from it
// in one bit, have unlike sums among themselves.
func TestUnlikeInOneOrTwoBits(t *testing.T) {
	for _, length := range []int{1, 2, 7, longest} {
		for _, text := range someTexts(length) {
			seen := map[uint32]int{crc.Sum(text): -1}
			for i := range 8 * length {
				sum := crc.Sum(flipped(text, i))
				if j, ok := seen[sum]; ok {
					t.Fatalf("%d bytes: bits %d and %d turned over have one sum", length, i, j)
				}
				seen[sum] = i
			}
		}
	}
}

// P3.2: two bits turned over in one text and a third one in the other, at both ends and in the middle.
func TestUnlikeInThreeBits(t *testing.T) {
	for _, text := range someTexts(longest) {
		single := map[uint32]int{}
		for i := range 8 * longest {
			single[crc.Sum(flipped(text, i))] = i
		}
		places := ends(8*longest, 24)
		for n, i := range places {
			for _, j := range places[:n] {
				sum := crc.Sum(flipped(text, i, j))
				if k, ok := single[sum]; ok {
					t.Fatalf("bits %d and %d, and bit %d, have one sum", i, j, k)
				}
			}
		}
	}
}

// P3.2: every three bits of a short text.
func TestUnlikeInAnyThreeBitsOfAShortText(t *testing.T) {
	const length = 8
	for _, text := range someTexts(length) {
		sum := crc.Sum(text)
		for i := range 8 * length {
			for j := range i {
				for k := range j {
					if crc.Sum(flipped(text, i, j, k)) == sum {
						t.Fatalf("%q: bits %d, %d and %d turned over have the sum of none", text, i, j, k)
					}
				}
			}
		}
	}
}

// P3.2: within 32 bits on end, at each place within a byte, in short texts and in the longest ones.
func TestUnlikeWithin32Bits(t *testing.T) {
	draw := draws(4)
	patterns := []uint32{1, 1 << 31, 1<<31 | 1, 0xffffffff, 0x7fffffff, 0xfffffffe, 0x80000000, 0x55555555, 0xaaaaaaaa, 0x0000ffff, 0xffff0000, 0x82f63b78, bits.Reverse32(0x82f63b78)}
	for range 50 {
		patterns = append(patterns, draw()|1)
	}
	for _, length := range []int{4, 5, 9, 100, longest} {
		for _, text := range someTexts(length) {
			sum := crc.Sum(text)
			for _, at := range ends(8*length-31, min(8, 8*length-31)) {
				for _, pattern := range patterns {
					if crc.Sum(within(text, at, pattern)) == sum {
						t.Errorf("%d bytes: %08x at bit %d has the sum of none", length, pattern, at)
					}
				}
			}
		}
	}
}

// P3.2, for all 2^32 - 1 differences at a place: what each of the 32 bits does to the sum can't be made of what the
// others do. That these add up (xor) is asked of drawn differences.
func TestUnlikeWithin32BitsWhateverTheDifference(t *testing.T) {
	draw := draws(5)
	for _, length := range []int{4, 5, longest} {
		text := drawnText(draw, length)
		sum := crc.Sum(text)
		for _, at := range ends(8*length-31, min(8, 8*length-31)) {
			var does [32]uint32
			for i := range does {
				does[i] = crc.Sum(flipped(text, at+i)) ^ sum
			}
			if rank(does[:]) != 32 {
				t.Errorf("%d bytes, at bit %d: some difference has the sum of none", length, at)
			}
			for range 5 {
				pattern, want := draw(), sum
				for i := range does {
					want ^= does[i] * (pattern >> i & 1)
				}
				if got := crc.Sum(within(text, at, pattern)); got != want {
					t.Errorf("%d bytes, %08x at bit %d: %08x, want %08x", length, pattern, at, got, want)
				}
			}
		}
	}
}

// rank tells how many of the numbers can't be made of others among them by xor.
func rank(numbers []uint32) int {
	var kept [33]uint32 // by how many bits a number has
	n := 0
	for _, x := range numbers {
		for x != 0 && kept[bits.Len32(x)] != 0 {
			x ^= kept[bits.Len32(x)]
		}
		if x != 0 {
			kept[bits.Len32(x)] = x
			n++
		}
	}
	return n
}

// P3.2 ends where it says: 33 bits on end may have one sum, and so may 32 bits if a byte's highest bit is taken to come
// first. P3.1 fixes these sums, so that bits on end can only be those that follow each other through the register.
func TestWhereUnlikeSumsEnd(t *testing.T) {
	for _, c := range []struct{ name, a, b string }{
		{"33 bits", "\x00\x00\x00\x00\x00", "\xf1\x76\xec\x05\x01"},
		{"32 bits, the highest first, from the second", "\x00\x00\x00\x00\x00", "\x62\x95\xe3\xfd\x80"},
		{"32 bits, the highest first, from the eighth", "\x00\x00\x00\x00\x00", "\x01\x03\x83\x6b\xf2"},
	} {
		if a, b := crc.Sum(c.a), crc.Sum(c.b); a != b || a != slowSum(c.b) {
			t.Errorf("%s: %08x and %08x", c.name, a, b)
		}
	}
}
