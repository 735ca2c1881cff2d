package tcp_test

import (
	"math"
	"math/rand"
	"strings"
	"testing"

	"palanquin/api"
	"palanquin/tcp"
)

// mustComeBack puts a segment, whose options are right, and gets it.
func mustComeBack(t *testing.T, s api.Segment, sum int) string {
	t.Helper()
	b, e := tcp.Put(s, sum)
	if e != api.OK {
		t.Fatalf("Put(%#v, %d): %v", s, sum, e)
	}
	got, back, e := tcp.Get(b)
	if got != s || back != sum || e != api.OK {
		t.Fatalf("put %#v, %d; got %#v, %d, %v", s, sum, got, back, e)
	}
	return b
}

// mustGoBack gets a segment, and puts what it got.
func mustGoBack(t *testing.T, b string) {
	t.Helper()
	s, sum, e := tcp.Get(b)
	if e != api.OK {
		t.Fatalf("Get(%s): %v", shown(b), e)
	}
	if tcp.Check(s) != api.OK || !tcp.Right(s.Options) {
		t.Fatalf("Get(%s): a segment that may not be: %#v", shown(b), s)
	}
	if again, e := tcp.Put(s, sum); again != b || e != api.OK {
		t.Fatalf("%s became %s, %v", shown(b), shown(again), e)
	}
}

// P7.3: each number at each of its values comes back, and the bytes go back.
func TestEveryNumberComesBack(t *testing.T) {
	for _, x := range numbers() {
		for n := range x.most + 1 {
			s := plain()
			*x.of(&s) = n
			mustGoBack(t, mustComeBack(t, s, plainSum))
		}
	}
	for sum := range 65536 {
		mustGoBack(t, mustComeBack(t, plain(), sum))
	}
}

// P7.3: Seq and Ack at their edges come back.
func TestSeqAndAckComeBack(t *testing.T) {
	edges := []uint32{0, 1, 1<<31 - 1, 1 << 31, math.MaxUint32 - 1, math.MaxUint32}
	for _, seq := range edges {
		for _, ack := range edges {
			s := plain()
			s.Seq, s.Ack = seq, ack
			mustGoBack(t, mustComeBack(t, s, plainSum))
		}
	}
}

// P7.3: options of every length that may be, of blanks, noughts and one long option, with payloads of none, few and many bytes.
func TestEveryLengthComesBack(t *testing.T) {
	for length := 0; length <= 40; length += 4 {
		options := []string{strings.Repeat("\x01", length), strings.Repeat("\x00", length)}
		if length > 0 {
			options = append(options, option(9, length))
		}
		for _, o := range options {
			for _, n := range []int{0, 1, 2, 19, 20, 21, 40, 1000, 65535, 65536} {
				s := plain()
				s.Options, s.Payload = o, strings.Repeat("\x02", n)
				mustGoBack(t, mustComeBack(t, s, plainSum))
			}
		}
	}
}

// P7.3: drawn segments, whose options are right, come back.
func TestDrawnComeBack(t *testing.T) {
	draw := rand.New(rand.NewSource(74))
	for range 5000 {
		s, sum := drawnSegment(draw)
		mustGoBack(t, mustComeBack(t, s, sum))
	}
}

// P7.3: drawn bytes that are a segment go back to the same bytes.
func TestDrawnGoBack(t *testing.T) {
	draw := rand.New(rand.NewSource(75))
	back := 0
	for range 40000 {
		b := drawnText(draw, 20+draw.Intn(60))
		b = saying(b, 5+draw.Intn(11))
		for at := 20; at < len(b); at++ {
			if draw.Intn(3) > 0 {
				b = withByte(b, at, byte(draw.Intn(5)))
			}
		}
		if _, _, e := tcp.Get(b); e == api.OK {
			mustGoBack(t, b)
			back++
		}
	}
	if back < 1000 {
		t.Errorf("%d went back", back)
	}
}

// P7.3: a segment within a segment comes back, and its header is no part of the outer one.
func TestWithinComesBack(t *testing.T) {
	s := plain()
	for range 20 {
		s.Payload = mustComeBack(t, s, plainSum)
	}
}
