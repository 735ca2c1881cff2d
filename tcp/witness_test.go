package tcp_test

import (
	"math/rand"
	"strings"
	"testing"

	"palanquin/api"
	"palanquin/tcp"
)

// plain is a segment that may be, with every field unlike the others.
func plain() api.Segment {
	return api.Segment{
		Src: 0x1122, Dst: 0x3344, Seq: 0x55667788, Ack: 0x99aabbcc, Flags: 0x1d, Window: 0xd0e1, Urgent: 0xf203,
		Options: "\x02\x04\x05\xb4\x01\x03\x03\x07", Payload: "pay\x00\xffload",
	}
}

// plainSum is unlike plain's fields.
const plainSum = 0x4657

// slowPut is a segment byte by byte, of one that may be, with a sum that may be.
func slowPut(s api.Segment, sum int) string {
	seq, ack := int(s.Seq), int(s.Ack)
	b := []byte{
		byte(s.Src / 256), byte(s.Src % 256), byte(s.Dst / 256), byte(s.Dst % 256),
		byte(seq / 16777216), byte(seq / 65536 % 256), byte(seq / 256 % 256), byte(seq % 256),
		byte(ack / 16777216), byte(ack / 65536 % 256), byte(ack / 256 % 256), byte(ack % 256),
		byte((5 + len(s.Options)/4) * 16), byte(s.Flags), byte(s.Window / 256), byte(s.Window % 256),
		byte(sum / 256), byte(sum % 256), byte(s.Urgent / 256), byte(s.Urgent % 256),
	}
	return string(b) + s.Options + s.Payload
}

// slowGet asks the chapter's questions, one by one.
func slowGet(b string) (api.Segment, int, api.Errno) {
	var none api.Segment
	if len(b) < 20 {
		return none, 0, api.ErrShort
	}
	words := int(b[12] / 16)
	if words < 5 || words*4 > len(b) {
		return none, 0, api.ErrLength
	}
	if b[12]%16 != 0 {
		return none, 0, api.ErrForm
	}
	options := b[20 : words*4]
	if _, right := slowOptions(options); !right {
		return none, 0, api.ErrLength
	}
	two := func(at int) int { return int(b[at])*256 + int(b[at+1]) }
	four := func(at int) uint32 { return uint32(two(at)*65536 + two(at+2)) }
	s := api.Segment{Src: two(0), Dst: two(2), Seq: four(4), Ack: four(8), Flags: int(b[13]), Window: two(14), Urgent: two(18)}
	s.Options, s.Payload = options, b[words*4:]
	return s, two(16), api.OK
}

// slowOptions parts options into what is walked, one cut from the front at a time, and tells whether they are right.
func slowOptions(options string) ([]string, bool) {
	var walked []string
	for options != "" {
		size := 1
		switch {
		case options[0] == 0:
			return walked, true
		case options[0] == 1:
		case len(options) == 1 || options[1] < 2:
			return walked, false
		default:
			size = int(options[1])
		}
		if size > len(options) {
			return walked, false
		}
		walked, options = append(walked, options[:size]), options[size:]
	}
	return walked, true
}

// slowMSS looks through what was parted.
func slowMSS(options string) (int, int, bool) {
	walked, right := slowOptions(options)
	for i, option := range walked {
		if right && strings.HasPrefix(option, "\x02\x04") {
			return int(option[2])*256 + int(option[3]), len(strings.Join(walked[:i], "")) + 2, true
		}
	}
	return 0, 0, false
}

// withByte is b with another byte at a place.
func withByte(b string, at int, x byte) string { return b[:at] + string([]byte{x}) + b[at+1:] }

// saying is b, saying that so many words are ahead of the payload.
func saying(b string, words int) string { return withByte(b, 12, byte(words*16)) }

// mustPut holds Put against the slow one, and tells the bytes.
func mustPut(t *testing.T, s api.Segment, sum int) string {
	t.Helper()
	if e := tcp.Check(s); e != api.OK {
		t.Fatalf("Check(%#v): %v", s, e)
	}
	b, e := tcp.Put(s, sum)
	if want := slowPut(s, sum); b != want || e != api.OK {
		t.Fatalf("Put(%#v, %d): %s, %v; want %s", s, sum, shown(b), e, shown(want))
	}
	return b
}

// mustNotBe holds a segment that may not be against Check and against Put, with sums that may be and that may not.
func mustNotBe(t *testing.T, why string, s api.Segment) {
	t.Helper()
	if e := tcp.Check(s); e != api.ErrRange {
		t.Errorf("%s: Check: %v", why, e)
	}
	for _, sum := range []int{0, 1, 65535, 65536, -1} {
		if b, e := tcp.Put(s, sum); b != "" || e != api.ErrRange {
			t.Errorf("%s, sum %d: Put: %d bytes, %v", why, sum, len(b), e)
		}
	}
}

// mustGet holds Get against the slow one, and tells the error.
func mustGet(t *testing.T, b string) api.Errno {
	t.Helper()
	s, sum, e := tcp.Get(b)
	wantS, wantSum, want := slowGet(b)
	if s != wantS || sum != wantSum || e != want {
		t.Fatalf("Get(%s): %#v, %d, %v; want %#v, %d, %v", shown(b), s, sum, e, wantS, wantSum, want)
	}
	return e
}

// mustRefuse says what error Get must tell, with the zero segment and no sum.
func mustRefuse(t *testing.T, why, b string, want api.Errno) {
	t.Helper()
	if s, sum, e := tcp.Get(b); e != want || s != (api.Segment{}) || sum != 0 {
		t.Errorf("%s: Get(%s): %#v, %d, %v; want %v", why, shown(b), s, sum, e, want)
	}
}

// mustWalk holds Right and MSS against the slow ones, and tells whether options are right.
func mustWalk(t *testing.T, options string) bool {
	t.Helper()
	_, right := slowOptions(options)
	if got := tcp.Right(options); got != right {
		t.Fatalf("Right(%s): %v", shown(options), got)
	}
	n, at, ok := tcp.MSS(options)
	if wantN, wantAt, want := slowMSS(options); n != wantN || at != wantAt || ok != want {
		t.Fatalf("MSS(%s): %d, %d, %v; want %d, %d, %v", shown(options), n, at, ok, wantN, wantAt, want)
	}
	return right
}

// mustTell says what Right and MSS must tell.
func mustTell(t *testing.T, why, options string, right bool, n, at int, ok bool) {
	t.Helper()
	if got := tcp.Right(options); got != right {
		t.Errorf("%s: Right(%s): %v", why, shown(options), got)
	}
	if gotN, gotAt, got := tcp.MSS(options); gotN != n || gotAt != at || got != ok {
		t.Errorf("%s: MSS(%s): %d, %d, %v; want %d, %d, %v", why, shown(options), gotN, gotAt, got, n, at, ok)
	}
}

func mustBeWrong(t *testing.T, why, options string) {
	t.Helper()
	mustTell(t, why, options, false, 0, 0, false)
}

func shown(b string) string {
	const digits = "0123456789abcdef"
	var s strings.Builder
	for i := range min(len(b), 72) {
		s.WriteByte(digits[b[i]>>4])
		s.WriteByte(digits[b[i]&15])
	}
	if len(b) > 72 {
		s.WriteString("..")
	}
	return s.String()
}

func drawnText(draw *rand.Rand, length int) string {
	text := make([]byte, length)
	draw.Read(text)
	return string(text)
}

// drawnOptions are right, of a length from 0 to 40 that may be.
func drawnOptions(draw *rand.Rand) string {
	length := 4 * draw.Intn(11)
	options := ""
	for len(options) < length {
		left := length - len(options)
		kind := byte(draw.Intn(6))
		switch {
		case kind == 0 && draw.Intn(4) == 0:
			options += "\x00" + drawnText(draw, left-1)
		case kind < 2 || left < 2:
			options += "\x01"
		case kind == 2 && left >= 4:
			options += "\x02\x04" + drawnText(draw, 2)
		default:
			size := 2 + draw.Intn(left-1)
			options += string([]byte{kind, byte(size)}) + drawnText(draw, size-2)
		}
	}
	return options
}

func drawnSegment(draw *rand.Rand) (api.Segment, int) {
	return api.Segment{
		Src: draw.Intn(65536), Dst: draw.Intn(65536), Seq: draw.Uint32(), Ack: draw.Uint32(),
		Flags: draw.Intn(256), Window: draw.Intn(65536), Urgent: draw.Intn(65536),
		Options: drawnOptions(draw), Payload: drawnText(draw, draw.Intn(40)),
	}, draw.Intn(65536)
}
