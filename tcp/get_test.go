package tcp_test

import (
	"math/rand"
	"strings"
	"testing"

	"palanquin/api"
	"palanquin/tcp"
)

// P7.1: ordinary segments, without and with options and payload.
func TestGetOrdinary(t *testing.T) {
	s, sum, e := tcp.Get("\x9c\x40\x00\x50\x81\x02\x03\x04\xf0\x0e\x0d\x0c\x60\x12\xfa\xf0\xfe\x30\x00\x07\x02\x04\x05\xb4p\x00\xffz")
	want := api.Segment{Src: 40000, Dst: 80, Seq: 0x81020304, Ack: 0xf00e0d0c, Flags: 0x12, Window: 64240, Urgent: 7, Options: "\x02\x04\x05\xb4", Payload: "p\x00\xffz"}
	if s != want || sum != 0xfe30 || e != api.OK {
		t.Errorf("%#v %d %v", s, sum, e)
	}
	s, sum, e = tcp.Get("\x00\x01\x00\x02\x00\x00\x00\x03\x00\x00\x00\x04\x50\x05\x00\x06\x00\x07\x00\x08")
	want = api.Segment{Src: 1, Dst: 2, Seq: 3, Ack: 4, Flags: 5, Window: 6, Urgent: 8}
	if s != want || sum != 7 || e != api.OK {
		t.Errorf("%#v %d %v", s, sum, e)
	}
}

// P7.1: every length below 20, whatever is said.
func TestGetShort(t *testing.T) {
	s := plain()
	s.Options, s.Payload = "", ""
	whole := slowPut(s, plainSum)
	for n := range 20 {
		mustRefuse(t, "cut", whole[:n], api.ErrShort)
		mustRefuse(t, "noughts", strings.Repeat("\x00", n), api.ErrShort)
		mustRefuse(t, "ones", strings.Repeat("\xff", n), api.ErrShort)
		if n > 12 {
			for said := range 256 {
				mustRefuse(t, "words", withByte(whole, 12, byte(said))[:n], api.ErrShort)
			}
		}
	}
	if e := mustGet(t, whole); e != api.OK {
		t.Errorf("20 bytes: %v", e)
	}
}

// P7.1: every byte that says how many words there are, with the four bits beside 0 and not 0, in segments of every length up to past the most.
func TestGetEveryWordsByte(t *testing.T) {
	for length := 20; length < 70; length++ {
		b := slowPut(api.Segment{Src: 1, Dst: 2}, 3) + strings.Repeat("\x01", length-20)
		for said := range 256 {
			words, beside := said/16, said%16
			p := withByte(b, 12, byte(said))
			switch {
			case words < 5 || words*4 > length:
				mustRefuse(t, "words", p, api.ErrLength)
			case beside != 0:
				mustRefuse(t, "beside", p, api.ErrForm)
			default:
				want := api.Segment{Src: 1, Dst: 2, Options: b[20 : words*4], Payload: b[words*4:]}
				if s, sum, e := tcp.Get(p); s != want || sum != 3 || e != api.OK {
					t.Errorf("%d bytes, says %#x: %#v %d %v", length, said, s, sum, e)
				}
			}
		}
	}
}

// P7.1: segments with a byte less than they say, with just as many, and with one more, which is payload.
func TestGetAByteLessThanSaid(t *testing.T) {
	for words := 5; words < 16; words++ {
		whole := saying(slowPut(api.Segment{}, 0), words) + strings.Repeat("\x01", words*4-20)
		if words == 5 {
			mustRefuse(t, "less", whole[:19], api.ErrShort)
		} else {
			for length := 20; length < len(whole); length++ {
				mustRefuse(t, "less", whole[:length], api.ErrLength)
			}
		}
		for _, payload := range []string{"", "x", "\x02", "\xff\xff"} {
			want := api.Segment{Options: whole[20:], Payload: payload}
			if s, sum, e := tcp.Get(whole + payload); s != want || sum != 0 || e != api.OK {
				t.Errorf("%d words: %#v %d %v", words, s, sum, e)
			}
		}
	}
}

// P7.1: options that aren't right are told, and an option doesn't go on into the payload.
func TestGetOptionsThatAreNotRight(t *testing.T) {
	for _, options := range []string{
		"\x02\x00\x00\x00", "\x02\x01\x00\x00", "\x03\x05\x00\x00", "\x01\x01\x01\x02", "\x01\x02\x04\x05", "\x01\x01\x02\x04", "\xff\xff\x00\x00",
		"\x02\x04\x05\xb4\x01\x01\x01\x08", "\x02\x04\x05\xb4\x04\x05\x00\x00", strings.Repeat("\x01", 39) + "\x05",
	} {
		for _, payload := range []string{"", "\x00", "\x04\x05\xb4", strings.Repeat("\x02", 300)} {
			b := slowPut(api.Segment{Options: options, Payload: payload}, 0xffff)
			mustRefuse(t, "options", b, api.ErrLength)
		}
	}
}

// P7.1: options that end early are right, whatever stands behind their end, and are got whole.
func TestGetOptionsThatEnd(t *testing.T) {
	for _, options := range []string{"\x00\x05\x05\xb4", "\x00\x00\x00\x00", "\x01\x00\x02\x01", "\x02\x04\x05\xb4\x00\xff\xff\xff", "\x01\x01\x01\x00"} {
		want := api.Segment{Options: options, Payload: "\xff"}
		if s, sum, e := tcp.Get(slowPut(want, 9)); s != want || sum != 9 || e != api.OK {
			t.Errorf("%s: %#v %d %v", shown(options), s, sum, e)
		}
	}
}

// P7.1: of several faults the first named one is told.
func TestGetSeveralFaults(t *testing.T) {
	faults := []struct {
		e    api.Errno
		turn func(b string) string
	}{
		{api.ErrLength, func(b string) string { return withByte(b, 20, 9)[:21] + "\x01" + b[22:] }},
		{api.ErrForm, func(b string) string { return withByte(b, 12, b[12]|8) }},
		{api.ErrForm, func(b string) string { return withByte(b, 12, b[12]|1) }},
		{api.ErrLength, func(b string) string { return withByte(b, 12, 0xf0|b[12]&15) }},
		{api.ErrLength, func(b string) string { return withByte(b, 12, 0x40|b[12]&15) }},
		{api.ErrLength, func(b string) string { return withByte(b, 12, b[12]&15) }},
		{api.ErrShort, func(b string) string { return b[:19] }},
		{api.ErrShort, func(b string) string { return b[:13] }},
		{api.ErrShort, func(b string) string { return "" }},
	}
	for chosen := range 1 << len(faults) {
		b, want := slowPut(plain(), plainSum), api.OK
		// The later named ones come first, so that the last one that is made is the one to be told.
		for i, fault := range faults {
			if chosen>>i&1 == 1 {
				b, want = fault.turn(b), fault.e
			}
		}
		if want == api.OK {
			mustGet(t, b)
		} else {
			mustRefuse(t, "several", b, want)
		}
	}
}

// P7.1: the sum is got as it is, and isn't asked whether it holds.
func TestGetEverySum(t *testing.T) {
	b := slowPut(plain(), 0)
	for sum := range 65536 {
		p := b[:16] + string([]byte{byte(sum / 256), byte(sum % 256)}) + b[18:]
		if s, got, e := tcp.Get(p); s != plain() || got != sum || e != api.OK {
			t.Fatalf("sum %d: %#v %d %v", sum, s, got, e)
		}
	}
}

// P7.1: every bit of a segment, turned, held against the slow questions.
func TestGetEveryBitTurned(t *testing.T) {
	whole := slowPut(plain(), plainSum)
	for at := range whole {
		for bit := range 8 {
			e := mustGet(t, withByte(whole, at, whole[at]^1<<bit))
			if (at < 12 || at > 12 && at < 20 || at >= 28) && e != api.OK {
				t.Errorf("byte %d, bit %d: %v", at, bit, e)
			}
		}
	}
}

// P7.1: drawn bytes, most of them wrong in one way or another, held against the slow questions.
func TestGetDrawn(t *testing.T) {
	draw := rand.New(rand.NewSource(72))
	seen := map[api.Errno]int{}
	for range 60000 {
		s, sum := drawnSegment(draw)
		b := slowPut(s, sum)
		for range draw.Intn(3) {
			b = withByte(b, 12+draw.Intn(len(b)-12), byte(draw.Intn(8)))
		}
		switch draw.Intn(12) {
		case 0:
			b = b[:draw.Intn(len(b)+1)]
		case 1:
			b += drawnText(draw, draw.Intn(9))
		case 2:
			b = drawnText(draw, draw.Intn(90))
		case 3:
			b = withByte(b, 12, byte(draw.Intn(256)))
		}
		seen[mustGet(t, b)]++
	}
	for _, e := range []api.Errno{api.OK, api.ErrShort, api.ErrLength, api.ErrForm} {
		if seen[e] < 50 {
			t.Errorf("error %v was met %d times", e, seen[e])
		}
	}
}
