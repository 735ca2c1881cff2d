package flow_test

import (
	"math"
	"math/rand"
	"strings"
	"testing"

	"palanquin/flow"
)

// unlikely are protocols beside 6 and 17, among them those that wrap round to one of the two.
func unlikely() []int {
	return []int{-1, -6, -17, 256, 256 + 6, 256 + 17, 6 - 256, 17 - 256, 1<<16 + 6, 1<<32 + 6, 1<<32 + 17, math.MaxInt, math.MinInt, math.MinInt + 6}
}

// P9.2: payloads that are known byte by byte.
func TestSealKnown(t *testing.T) {
	for _, packet := range []string{segment4, datagram4, segment6, datagram6} {
		src, dst, payload, proto := packet[12:16], packet[16:20], packet[20:], int(packet[9])
		if packet[0] == 0x60 {
			src, dst, payload, proto = packet[8:24], packet[24:40], packet[40:], int(packet[6])
		}
		if got := flow.Seal(proto, src, dst, payload); got != payload {
			t.Errorf("its own sum: %s, want %s", shown(got), shown(payload))
		}
		at := map[int]int{6: 16, 17: 6}[proto]
		for _, n := range []int{0, 1, 0x1234, 65535} {
			if got := flow.Seal(proto, src, dst, withTwo(payload, at, n)); got != payload {
				t.Errorf("sum %#x: %s, want %s", n, shown(got), shown(payload))
			}
		}
	}
}

// P9.2: payloads of 0 to 21 bytes and more, by every protocol, in both versions.
func TestSealEveryLengthAndProtocol(t *testing.T) {
	draw := rand.New(rand.NewSource(92))
	protos := unlikely()
	for proto := range 256 {
		protos = append(protos, proto)
	}
	for _, v := range versions() {
		for n := range 50 {
			payload := drawnText(draw, n)
			for _, proto := range protos {
				mustSeal(t, proto, v.src, v.dst, payload)
				if sealed := proto == 6 && n >= 20 || proto == 17 && n >= 8; !sealed {
					mustStay(t, proto, v, payload)
				}
			}
		}
	}
}

// mustStay holds that a payload is answered as it is.
func mustStay(t *testing.T, proto int, v version, payload string) {
	t.Helper()
	if got := flow.Seal(proto, v.src, v.dst, payload); got != payload {
		t.Fatalf("%s, protocol %d: %s became %s", v.name, proto, shown(payload), shown(got))
	}
}

// P9.2: a payload of a byte too few stays as it is; of just enough it is sealed, behind its end nothing.
func TestSealAtItsLeast(t *testing.T) {
	eachKind(t, func(t *testing.T, v version, k kind, _ string) {
		for _, fill := range []string{"\x00", "\x01", "\xff"} {
			mustStay(t, k.proto, v, strings.Repeat(fill, k.least-1))
			whole := strings.Repeat(fill, k.least)
			got := flow.Seal(k.proto, v.src, v.dst, whole)
			n := slowSum(slowAhead(v.src, v.dst, k.proto, k.least) + withTwo(whole, k.sumAt, 0))
			if got != withTwo(whole, k.sumAt, n) {
				t.Errorf("%s became %s", shown(whole), shown(got))
			}
		}
	})
}

// P9.2: only the sum's two bytes change; what stood there plays no part; what is sealed stays so.
func TestSealWhateverStoodThere(t *testing.T) {
	eachKind(t, func(t *testing.T, v version, k kind, whole string) {
		want := whole[v.head:]
		for n := range 65536 {
			if got := flow.Seal(k.proto, v.src, v.dst, withTwo(k.plain, k.sumAt, n)); got != want {
				t.Fatalf("sum %#x: %s, want %s", n, shown(got), shown(want))
			}
		}
		if !strings.HasPrefix(want, k.plain[:k.sumAt]) || !strings.HasSuffix(want, k.plain[k.sumAt+2:]) {
			t.Errorf("%s became %s", shown(k.plain), shown(want))
		}
	})
}

// P9.2: a datagram's sum that comes out as 0 is FFFF, a segment's is 0; a byte more is neither.
func TestSealSumOfZero(t *testing.T) {
	eachKind(t, func(t *testing.T, v version, k kind, _ string) {
		want := map[string]string{"TCP": "\x00\x00", "UDP": "\xff\xff"}[k.name]
		b := summingToZero(v, k)
		for _, n := range []int{0, 1, 0x1234, 65535} {
			got := flow.Seal(k.proto, v.src, v.dst, withTwo(b, k.sumAt, n))
			if got != b[:k.sumAt]+want+b[k.sumAt+2:] {
				t.Errorf("sum %#x: %s became %s", n, shown(b), shown(got))
			}
		}
		if got := mustSeal(t, k.proto, v.src, v.dst, b+"\x01"); got[k.sumAt:k.sumAt+2] == want {
			t.Errorf("a byte more: %s", shown(got))
		}
	})
	const example = "\xff\xde\x00\x00\x00\x08"
	if got := flow.Seal(17, "\x00\x00\x00\x00", "\x00\x00\x00\x00", example+"\x12\x34"); got != example+"\xff\xff" {
		t.Errorf("a datagram alone: %s", shown(got))
	}
}

// P9.2: payloads of odd and even length; an odd one's last byte is the higher one of its number.
func TestSealOddAndEven(t *testing.T) {
	draw := rand.New(rand.NewSource(93))
	lengths := []int{1000, 1001, 65514, 65515, 65534, 65535, 65536, 65537, 1<<17 + 3}
	for n := 8; n < 300; n++ {
		lengths = append(lengths, n)
	}
	eachKind(t, func(t *testing.T, v version, k kind, _ string) {
		for _, n := range lengths {
			mustSeal(t, k.proto, v.src, v.dst, drawnText(draw, n))
			mustSeal(t, k.proto, v.src, v.dst, strings.Repeat("\xff", n))
		}
		even := k.plain[:len(k.plain)/2*2]
		without := numberAt(mustSeal(t, k.proto, v.src, v.dst, even+"\x00"), k.sumAt)
		with := numberAt(mustSeal(t, k.proto, v.src, v.dst, even+"\x01"), k.sumAt)
		if (without-with+65535)%65535 != 256 {
			t.Errorf("last byte 00: %#x; 01: %#x", without, with)
		}
	})
}

// P9.2: addresses of whatever lengths, which layer 2 counts as they are.
func TestSealOddAddresses(t *testing.T) {
	draw := rand.New(rand.NewSource(94))
	for src := range 34 {
		for dst := range 34 {
			for _, k := range kinds() {
				mustSeal(t, k.proto, drawnText(draw, src), drawnText(draw, dst), drawnText(draw, draw.Intn(40)))
			}
		}
	}
}

// P9.2: drawn payloads, whose sum is 0 but for the two bytes that tell it, and the pseudo header ahead.
func TestSealDrawn(t *testing.T) {
	draw := rand.New(rand.NewSource(95))
	eachKind(t, func(t *testing.T, v version, k kind, _ string) {
		for range 5000 {
			b := mustSeal(t, k.proto, v.src, v.dst, drawnText(draw, k.least+draw.Intn(100)))
			if slowSum(slowAhead(v.src, v.dst, k.proto, len(b))+b) != 0 {
				t.Fatalf("%s has another sum", shown(b))
			}
		}
	})
}
