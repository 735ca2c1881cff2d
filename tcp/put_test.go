package tcp_test

import (
	"math"
	"math/rand"
	"strings"
	"testing"

	"palanquin/api"
	"palanquin/tcp"
)

type number struct {
	name string
	most int
	of   func(s *api.Segment) *int
}

// numbers names the segment's numbers that have bounds, and how great each may be.
func numbers() []number {
	return []number{
		{"Src", 65535, func(s *api.Segment) *int { return &s.Src }},
		{"Dst", 65535, func(s *api.Segment) *int { return &s.Dst }},
		{"Flags", 255, func(s *api.Segment) *int { return &s.Flags }},
		{"Window", 65535, func(s *api.Segment) *int { return &s.Window }},
		{"Urgent", 65535, func(s *api.Segment) *int { return &s.Urgent }},
	}
}

// tooFar are numbers outside 0 to most, among them those that wrap round to one that may be.
func tooFar(most int) []int {
	return []int{-1, -2, most + 1, most + 2, -most, -most - 1, 2*most + 2, 1 << 20, 1 << 31, 1 << 32, 1<<32 + 1, -1 << 32, math.MaxInt, math.MinInt, math.MinInt + 1}
}

// P7.1: each number at its least and greatest, one below, one above, and far off.
func TestNumbersAtTheirEdges(t *testing.T) {
	for _, x := range numbers() {
		for _, n := range []int{0, 1, x.most / 2, x.most/2 + 1, x.most - 1, x.most} {
			s := plain()
			*x.of(&s) = n
			mustPut(t, s, plainSum)
		}
		for _, n := range tooFar(x.most) {
			s := plain()
			*x.of(&s) = n
			mustNotBe(t, x.name, s)
		}
	}
}

// P7.1: the sum at its least and greatest, one below, one above, and far off.
func TestSumAtItsEdges(t *testing.T) {
	for _, sum := range []int{0, 1, 255, 256, 32767, 32768, 65534, 65535} {
		mustPut(t, plain(), sum)
	}
	for _, sum := range tooFar(65535) {
		if b, e := tcp.Put(plain(), sum); b != "" || e != api.ErrRange {
			t.Errorf("sum %d: %d bytes, %v", sum, len(b), e)
		}
	}
}

// P7.1: Seq and Ack at their least and greatest, and with the bit that might pass for a sign.
func TestSeqAndAckAtTheirEdges(t *testing.T) {
	edges := []uint32{0, 1, 65535, 65536, 1<<31 - 1, 1 << 31, math.MaxUint32 - 1, math.MaxUint32}
	for _, seq := range edges {
		for _, ack := range edges {
			s := plain()
			s.Seq, s.Ack = seq, ack
			mustPut(t, s, plainSum)
		}
	}
}

// P7.1: Options of every length from 0 to 44, and of some far past that.
func TestOptionsOfEveryLength(t *testing.T) {
	lengths := []int{45, 46, 47, 48, 60, 64, 80, 255, 256, 260, 296, 65536, 65540, 1 << 20}
	for n := range 45 {
		lengths = append(lengths, n)
	}
	for _, n := range lengths {
		s := plain()
		s.Options = strings.Repeat("\x01", n)
		if n <= 40 && n%4 == 0 {
			if b := mustPut(t, s, plainSum); b[12] != byte(0x50+n*4) || len(b) != 20+n+len(s.Payload) {
				t.Errorf("Options of %d: %s", n, shown(b))
			}
		} else {
			mustNotBe(t, "Options", s)
		}
	}
}

// P7.1: Check and Put ask how many bytes Options have, and nothing else of them.
func TestPutOfOptionsThatAreNotRight(t *testing.T) {
	for _, options := range []string{
		"\x02\x00\x00\x00", "\x02\x01\x00\x00", "\x02\x05\x05\xb4", "\x01\x01\x01\x02", "\x03\xff\x00\x00", "\xff\xff\xff\xff",
		"\x02\x04\x05\xb4\x01\x01\x01\x08", strings.Repeat("\xfe", 40),
	} {
		s := plain()
		s.Options = options
		if tcp.Right(options) {
			t.Fatalf("%s is right", shown(options))
		}
		b := mustPut(t, s, plainSum)
		if b[20:20+len(options)] != options {
			t.Errorf("%s: put as %s", shown(options), shown(b))
		}
		mustRefuse(t, "what was put", b, api.ErrLength)
	}
}

// P7.1: the zero segment may be; several faults come to the same error.
func TestSegmentsWithSeveralFaults(t *testing.T) {
	mustPut(t, api.Segment{}, 0)
	for chosen := 1; chosen < 1<<6; chosen++ {
		s := plain()
		for i, x := range numbers() {
			if chosen>>i&1 == 1 {
				*x.of(&s) = x.most + 1
			}
		}
		if chosen>>5&1 == 1 {
			s.Options += "\x00"
		}
		mustNotBe(t, "several", s)
	}
}

// P7.1: all is least, all is greatest.
func TestSegmentsAtAllEdges(t *testing.T) {
	if b := mustPut(t, api.Segment{}, 0); b != strings.Repeat("\x00", 12)+"\x50"+strings.Repeat("\x00", 7) {
		t.Errorf("least: %s", shown(b))
	}
	full := strings.Repeat("\xff", 40)
	most := api.Segment{Src: 65535, Dst: 65535, Seq: math.MaxUint32, Ack: math.MaxUint32, Flags: 255, Window: 65535, Urgent: 65535, Options: full, Payload: "\xff"}
	if b := mustPut(t, most, 65535); b != full[:12]+"\xf0"+full[:7]+full+"\xff" {
		t.Errorf("greatest: %s", shown(b))
	}
}

// P7.1: a segment that is known byte by byte, with the chapter's options.
func TestPutKnownSegment(t *testing.T) {
	s := api.Segment{Src: 40000, Dst: 80, Seq: 0x01020304, Ack: 0, Flags: 2, Window: 64240, Options: "\x02\x04\x05\xb4"}
	if b := mustPut(t, s, 0xfe30); b != "\x9c\x40\x00\x50\x01\x02\x03\x04\x00\x00\x00\x00\x60\x02\xfa\xf0\xfe\x30\x00\x00\x02\x04\x05\xb4" {
		t.Errorf("%s", shown(b))
	}
}

// P7.1: each field has its own place, to a bit.
func TestPlacesOfTheFields(t *testing.T) {
	bare := mustPut(t, api.Segment{}, 0)
	for _, x := range []struct {
		name  string
		first int // the place of its first byte
		bits  int
		put   func(n uint32) (string, api.Errno)
	}{
		{"Src", 0, 16, func(n uint32) (string, api.Errno) { return tcp.Put(api.Segment{Src: int(n)}, 0) }},
		{"Dst", 2, 16, func(n uint32) (string, api.Errno) { return tcp.Put(api.Segment{Dst: int(n)}, 0) }},
		{"Seq", 4, 32, func(n uint32) (string, api.Errno) { return tcp.Put(api.Segment{Seq: n}, 0) }},
		{"Ack", 8, 32, func(n uint32) (string, api.Errno) { return tcp.Put(api.Segment{Ack: n}, 0) }},
		{"Flags", 13, 8, func(n uint32) (string, api.Errno) { return tcp.Put(api.Segment{Flags: int(n)}, 0) }},
		{"Window", 14, 16, func(n uint32) (string, api.Errno) { return tcp.Put(api.Segment{Window: int(n)}, 0) }},
		{"sum", 16, 16, func(n uint32) (string, api.Errno) { return tcp.Put(api.Segment{}, int(n)) }},
		{"Urgent", 18, 16, func(n uint32) (string, api.Errno) { return tcp.Put(api.Segment{Urgent: int(n)}, 0) }},
	} {
		for bit := range x.bits {
			at := x.first + bit/8
			want := withByte(bare, at, bare[at]|0x80>>(bit%8))
			if b, e := x.put(1 << (x.bits - 1 - bit)); b != want || e != api.OK {
				t.Errorf("%s, bit %d: %s, %v; want %s", x.name, bit, shown(b), e, shown(want))
			}
		}
	}
}

// P7.1: payloads have no bound here, and are put as they are.
func TestPayloadsOfEveryLength(t *testing.T) {
	lengths := []int{1000, 65495, 65515, 65516, 65535, 65536, 1 << 17}
	for n := range 70 {
		lengths = append(lengths, n)
	}
	for _, n := range lengths {
		for _, with := range []string{"\x00", "\x01", "\xff"} {
			s := plain()
			s.Payload = strings.Repeat(with, n)
			if b := mustPut(t, s, plainSum); len(b) != 28+n {
				t.Errorf("payload of %d: %d bytes", n, len(b))
			}
		}
	}
}

// P7.1: drawn segments, held against the slow bytes.
func TestPutDrawn(t *testing.T) {
	draw := rand.New(rand.NewSource(71))
	for range 5000 {
		s, sum := drawnSegment(draw)
		mustPut(t, s, sum)
		s.Options = drawnText(draw, len(s.Options))
		mustPut(t, s, sum)
	}
}

// P7.1: the same call answers the same, whatever was called between.
func TestPutTwice(t *testing.T) {
	first := mustPut(t, plain(), plainSum)
	tcp.Put(api.Segment{Src: -1}, 0)
	tcp.Get("other")
	tcp.MSS("\x02\x04\x05\xb4")
	if again := mustPut(t, plain(), plainSum); again != first {
		t.Errorf("%s, then %s", shown(first), shown(again))
	}
}
