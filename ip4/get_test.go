package ip4_test

import (
	"math/rand"
	"strings"
	"testing"

	"palanquin/api"
	"palanquin/ip4"
)

// P5.2: ordinary packets, and the payload's bytes as they are.
func TestGetOrdinary(t *testing.T) {
	const p = "\x46\x05\x00\x1c\x02\x03\x7a\xbc\x40\x06\x00\x00\x0a\x00\x00\x01\x0a\x00\x00\x02\x01\x01\x01\x00wxyz"
	h, payload, e := ip4.Get(withSum(p))
	want := api.Header4{TOS: 5, ID: 0x203, Offset: 0x1abc, TTL: 64, Proto: 6, DF: true, MF: true, Src: "\x0a\x00\x00\x01", Dst: "\x0a\x00\x00\x02", Options: "\x01\x01\x01\x00"}
	if h != want || payload != "wxyz" || e != api.OK {
		t.Errorf("%#v %q %v", h, payload, e)
	}
	const known = "\x45\x00\x00\x14\x00\x00\x40\x00\x40\x11\xb8\xc0\xc0\xa8\x00\x01\xc0\xa8\x00\xc7"
	h, payload, e = ip4.Get(known)
	want = api.Header4{TTL: 64, Proto: 17, DF: true, Src: "\xc0\xa8\x00\x01", Dst: "\xc0\xa8\x00\xc7"}
	if h != want || payload != "" || e != api.OK {
		t.Errorf("%#v %q %v", h, payload, e)
	}
}

// P5.2: every length below 20, whatever the first byte, and whatever else is wrong.
func TestGetShort(t *testing.T) {
	whole := slowPut(plain(), "")
	mustRefuse(t, "nothing", "", api.ErrShort)
	for n := range 20 {
		mustRefuse(t, "cut", whole[:n], api.ErrShort)
		if n >= 4 {
			mustRefuse(t, "cut, and says so", saying(whole, n)[:n], api.ErrShort)
		}
		if n > 0 {
			for first := range 256 {
				mustRefuse(t, "first byte", withByte(whole, 0, byte(first))[:n], api.ErrShort)
			}
		}
	}
	mustGet(t, whole)
}

// P5.2: every first byte, with packets of every length from 20 to past the longest header, each with the right sum and
// saying how many bytes it has: so only the first byte is wrong.
func TestGetEveryFirstByte(t *testing.T) {
	for length := 20; length <= 70; length++ {
		for first := range 256 {
			p := withByte(saying(strings.Repeat("\x21", length), length), 0, byte(first))
			if words := first % 16; words >= 5 {
				p = withSum(p)
			}
			want := api.OK
			switch {
			case first/16 != 4:
				want = api.ErrVersion
			case first%16 < 5 || first%16*4 > length:
				want = api.ErrLength
			}
			if e := mustGet(t, p); e != want {
				t.Fatalf("first byte %#x, %d bytes: %v, want %v", first, length, e, want)
			}
		}
	}
}

// P5.2: a header of fewer than 5 words is refused for its length, however its sum is counted.
func TestGetFewWords(t *testing.T) {
	for words := range 5 {
		p := withByte(slowPut(plain(), "payload"), 0, byte(0x40+words))
		mustRefuse(t, "few words", p, api.ErrLength)
		five := withByte(withSum(withByte(p, 0, 0x45)), 0, byte(0x40+words))
		mustRefuse(t, "few words, sum of 20 bytes", five, api.ErrLength)
		if words >= 3 {
			mustRefuse(t, "few words, sum of theirs", withSum(p), api.ErrLength)
		}
	}
}

// P5.2: headers of 5 to 15 words, in packets that just hold them, and in such as are cut below that.
func TestGetManyWords(t *testing.T) {
	for words := 5; words <= 15; words++ {
		h := plain()
		h.Options = strings.Repeat("\x07\x0b\x00\xff", words-5)
		whole := slowPut(h, "")
		if got, payload, e := ip4.Get(whole); got != h || payload != "" || e != api.OK {
			t.Errorf("%d words: %#v %q %v", words, got, payload, e)
		}
		for length := 20; length < len(whole); length++ {
			cut := whole[:length]
			mustRefuse(t, "cut", cut, api.ErrLength)
			mustRefuse(t, "cut, and says so", saying(cut, length), api.ErrLength)
			mustRefuse(t, "cut, says so, right sum", withSum(saying(cut, length)), api.ErrLength)
		}
	}
}

// P5.2: packets with fewer and with more bytes than they say.
func TestGetOtherLengthThanSaid(t *testing.T) {
	h := plain()
	h.Options = "\x01\x01\x01\x01"
	whole := slowPut(h, "some payload")
	for length := 20; length < len(whole); length++ {
		mustRefuse(t, "fewer", whole[:length], api.ErrLength)
	}
	for _, more := range []int{1, 2, 3, 4, 100, 65535, 65536, 65536 - len(whole), 1 << 17} {
		mustRefuse(t, "more", whole+strings.Repeat("x", more), api.ErrLength)
	}
	for said := range 65536 {
		want := api.ErrLength
		if said == len(whole) {
			want = api.OK
		}
		if _, _, e := ip4.Get(withSum(saying(whole, said))); e != want {
			t.Fatalf("%d bytes that say %d: %v, want %v", len(whole), said, e, want)
		}
	}
}

// P5.2: just 65535 bytes are taken; more can't be said, not even by their lowest two bytes.
func TestGetAtTheGreatestLength(t *testing.T) {
	whole := slowPut(plain(), strings.Repeat("p", 65515))
	if h, payload, e := ip4.Get(whole); h != plain() || len(payload) != 65515 || e != api.OK {
		t.Errorf("%#v, %d bytes, %v", h, len(payload), e)
	}
	for _, more := range []int{1, 20, 21, 65535, 65536, 65537} {
		long := whole + strings.Repeat("p", more)
		mustRefuse(t, "says 65535", long, api.ErrLength)
		mustRefuse(t, "says the lowest two bytes", withSum(saying(long, len(long)%65536)), api.ErrLength)
	}
}

// P5.2: a sum that is wrong, by every other number in its place.
func TestGetEverySum(t *testing.T) {
	h := plain()
	h.Options = "\x01\x02\x03\x04"
	whole := slowPut(h, "xyz")
	for n := range 65536 {
		p := whole[:10] + string([]byte{byte(n / 256), byte(n % 256)}) + whole[12:]
		want := api.ErrSum
		if p == whole {
			want = api.OK
		}
		if e := mustGet(t, p); e != want {
			t.Fatalf("sum %#x: %v, want %v", n, e, want)
		}
	}
}

// P5.2: the sum is of the header, options and all, and of the header alone.
func TestGetEveryBitTurned(t *testing.T) {
	for options := 0; options <= 40; options += 4 {
		h := plain()
		h.Options = strings.Repeat("\x5a", options)
		whole := slowPut(h, "some payload")
		for at := range whole {
			for bit := range 8 {
				p := withByte(whole, at, whole[at]^1<<bit)
				e := mustGet(t, p)
				if inPayload := at >= 20+options; (e == api.OK) != inPayload {
					t.Fatalf("byte %d, bit %d, of %d options: %v", at, bit, options, e)
				}
				if at >= 4 && at < 20+options && e != api.ErrSum {
					t.Fatalf("byte %d, bit %d, of %d options: %v, want %v", at, bit, options, e, api.ErrSum)
				}
			}
		}
	}
}

// P5.2: a sum FFFF is right where 0000 is, and only there.
func TestGetSumOfAllOnes(t *testing.T) {
	for options := 0; options <= 40; options += 4 {
		h := headerWithSumZero(options)
		whole := slowPut(h, "payload")
		if whole[10:12] != "\x00\x00" {
			t.Fatalf("%s has another sum", shown(whole))
		}
		for _, own := range []string{"\x00\x00", "\xff\xff"} {
			got, payload, e := ip4.Get(whole[:10] + own + whole[12:])
			if got != h || payload != "payload" || e != api.OK {
				t.Errorf("sum %q: %#v %q %v", own, got, payload, e)
			}
		}
		h.ID ^= 1
		other := slowPut(h, "payload")
		mustRefuse(t, "FFFF", other[:10]+"\xff\xff"+other[12:], api.ErrSum)
		mustRefuse(t, "0000", other[:10]+"\x00\x00"+other[12:], api.ErrSum)
	}
}

// headerWithSumZero is a header whose right sum is 0000 beside a payload of 7 bytes.
func headerWithSumZero(options int) api.Header4 {
	h := plain()
	h.Options = strings.Repeat("\x09", options)
	h.ID = 0
	p := slowPut(h, "payload")
	h.ID = int(p[10])*256 + int(p[11])
	return h
}

// P5.2: the highest of the flags' bits, with each of the others, and with the right sum and a wrong one.
func TestGetHighestFlag(t *testing.T) {
	whole := slowPut(plain(), "payload")
	for high := range 256 {
		for _, low := range []byte{0, 1, 0x80, 0xff} {
			p := withByte(withByte(whole, 6, byte(high)), 7, low)
			want := api.OK
			if high >= 128 {
				want = api.ErrForm
			}
			if e := mustGet(t, withSum(p)); e != want {
				t.Errorf("flags %#x %#x: %v, want %v", high, low, e, want)
			}
			if p != whole {
				mustRefuse(t, "flags, wrong sum", p, api.ErrSum)
			}
		}
	}
}

// P5.2: of several faults the first named one is told.
func TestGetSeveralFaults(t *testing.T) {
	faults := []struct {
		e    api.Errno
		turn func(p string) string
	}{
		{api.ErrForm, func(p string) string { return withSum(withByte(p, 6, 0x80)) }},
		{api.ErrSum, func(p string) string { return withByte(p, 8, p[8]+1) }},
		{api.ErrLength, func(p string) string { return p + "z" }},
		{api.ErrLength, func(p string) string { return saying(p, len(p)+1) }},
		{api.ErrLength, func(p string) string { return withByte(p, 0, p[0]-1) }},
		{api.ErrLength, func(p string) string { return withByte(p, 0, p[0]+10) }},
		{api.ErrVersion, func(p string) string { return withByte(p, 0, p[0]^0x20) }},
		{api.ErrShort, func(p string) string { return p[:19] }},
	}
	for chosen := range 1 << len(faults) {
		p, want := slowPut(plain(), "xy"), api.OK
		// The later named ones come first, so that the last one that is made is the one to be told.
		for i, fault := range faults {
			if chosen>>i&1 == 1 {
				p, want = fault.turn(p), fault.e
			}
		}
		if e := mustGet(t, p); e != want {
			t.Errorf("faults %b: %v, want %v", chosen, e, want)
		}
	}
}

// P5.2: drawn bytes, most of them wrong in one way or another, held against the slow questions.
func TestGetDrawn(t *testing.T) {
	draw := rand.New(rand.NewSource(53))
	seen := map[api.Errno]int{}
	for range 60000 {
		p := slowPut(drawnHeader(draw), drawnText(draw, draw.Intn(30)))
		for range draw.Intn(3) {
			at := draw.Intn(min(len(p), 12))
			p = withByte(p, at, byte(draw.Intn(256)))
			if draw.Intn(2) == 0 {
				p = withSum(p)
			}
		}
		switch draw.Intn(12) {
		case 0:
			p = p[:draw.Intn(len(p)+1)]
		case 1:
			p += drawnText(draw, draw.Intn(9))
		case 2:
			p = drawnText(draw, draw.Intn(80))
		}
		seen[mustGet(t, p)]++
	}
	for _, e := range []api.Errno{api.OK, api.ErrShort, api.ErrVersion, api.ErrLength, api.ErrSum, api.ErrForm} {
		if seen[e] < 50 {
			t.Errorf("error %v was met %d times", e, seen[e])
		}
	}
}
