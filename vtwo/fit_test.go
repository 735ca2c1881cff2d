package vtwo_test

import (
	"math"
	"slices"
	"strings"
	"testing"

	"palanquin/api"
	"palanquin/vtwo"
)

// P18.1: each Type of a field, alone, and first, in the middle and last among others: 0 to 255, but 3.
func TestFieldTypes(t *testing.T) {
	types := []int{-1, -3, -253, 256, 257, 259, 511, 512, 65536, 65539, 1 << 32, 1<<32 + 3, 1<<32 + 4, -1 << 32, math.MaxInt, math.MinInt, math.MinInt + 3, math.MinInt + 4}
	for n := range 256 {
		types = append(types, n)
	}
	for _, n := range types {
		want := api.OK
		if n < 0 || n > 255 || n == 3 {
			want = api.ErrRange
		}
		others := []api.Field{{Type: 1, Text: "one"}, {Type: 2}, {Type: 4, Text: "four"}}
		for _, s := range talks() {
			for _, text := range []string{"", "abcd"} {
				f := api.Field{Type: n, Text: text}
				lists := [][]api.Field{{f}, {f, f}}
				for at := range len(others) + 1 {
					lists = append(lists, slices.Insert(slices.Clone(others), at, f))
				}
				for _, s.Fields = range lists {
					for _, seal := range []bool{false, true} {
						if e := mustAsk(t, s, seal); e != want {
							t.Errorf("Type %d: %s, %v: %v, want %v", n, told(s), seal, e, want)
						}
					}
				}
			}
		}
	}
}

// P18.1: an empty list of fields is none, with room or without.
func TestNoFields(t *testing.T) {
	for _, s := range talks() {
		for _, seal := range []bool{false, true} {
			want := slowPut(s, seal)
			for _, fields := range [][]api.Field{nil, {}, make([]api.Field, 0, 9)} {
				s.Fields = fields
				if b, e := vtwo.Put(s, seal); b != want || e != api.OK {
					t.Errorf("%s, %v: %s, %v", told(s), seal, shown(b), e)
				}
			}
		}
	}
}

// P18.1: Texts of 0 to more than 65535 bytes: one that is too long for itself isn't told as too long for the whole.
func TestFieldTexts(t *testing.T) {
	for _, s := range talks() {
		for _, n := range []int{0, 1, 2, 255, 256, 257, 32767, 32768, 65000} {
			s.Fields = []api.Field{{Type: 7, Text: strings.Repeat("x", n)}}
			for _, seal := range []bool{false, true} {
				if e := mustAsk(t, s, seal); e != api.OK {
					t.Errorf("%s, %v: %v", told(s), seal, e)
				}
			}
		}
		for _, x := range []struct {
			n int
			e api.Errno
		}{{65533, api.ErrLength}, {65534, api.ErrLength}, {65535, api.ErrLength}, {65536, api.ErrRange}, {65537, api.ErrRange}, {131072, api.ErrRange}, {1 << 20, api.ErrRange}} {
			f := api.Field{Type: 7, Text: strings.Repeat("x", x.n)}
			for _, s.Fields = range [][]api.Field{{f}, {{}, f}, {f, {Type: 255, Text: "y"}}, {f, f}} {
				mustNotBe(t, "Text", s, x.e)
			}
		}
	}
}

// withFollow is s with fields, so that without a seal so many bytes are behind the first 16.
func withFollow(s api.Stream, total int, ahead ...api.Field) api.Stream {
	s.Fields = ahead
	left := total - slowFollow(s, false) - 3
	s.Fields = append(s.Fields, api.Field{Type: 8, Text: strings.Repeat("z", left)})
	return s
}

// P18.1: all behind the first 16 bytes is 65535 at most, and one more is too long, whatever it is made of; a seal takes seven of them.
func TestWholeLength(t *testing.T) {
	many := make([]api.Field, 20000)
	half := []api.Field{{Type: 1, Text: strings.Repeat("h", 32000)}, {Type: 1}}
	for _, s := range talks() {
		for _, ahead := range [][]api.Field{nil, half, many} {
			for _, x := range []struct {
				total         int
				without, with api.Errno
			}{
				{65527, api.OK, api.OK}, {65528, api.OK, api.OK}, {65529, api.OK, api.ErrLength}, {65530, api.OK, api.ErrLength}, {65534, api.OK, api.ErrLength}, {65535, api.OK, api.ErrLength},
				{65536, api.ErrLength, api.ErrLength}, {65537, api.ErrLength, api.ErrLength}, {65543, api.ErrLength, api.ErrLength}, {66000, api.ErrLength, api.ErrLength},
			} {
				long := withFollow(s, x.total, ahead...)
				if len(long.Fields[len(long.Fields)-1].Text) > 65535 {
					continue
				}
				for seal, want := range map[bool]api.Errno{false: x.without, true: x.with} {
					if e := vtwo.Check(long, seal); e != want {
						t.Errorf("%d bytes, %s, %v: %v, want %v", x.total, told(long), seal, e, want)
					}
					mustAsk(t, long, seal)
				}
			}
		}
		// As many empty fields as there is room for, and one more.
		room := (65535 - slowFollow(s, false)) / 3
		s.Fields = make([]api.Field, room)
		if e := mustAsk(t, s, false); e != api.OK {
			t.Errorf("%s: %v", told(s), e)
		}
		s.Fields = make([]api.Field, room+1)
		mustNotBe(t, "fields", s, api.ErrLength)
	}
}

// P18.1: such as wrap round in two bytes or in four are too long, too.
func TestWholeLengthFarOff(t *testing.T) {
	text := strings.Repeat("w", 65535)
	for _, n := range []int{2, 3, 1 << 10, 1 << 16} {
		fields := make([]api.Field, n)
		for i := range fields {
			fields[i] = api.Field{Type: 9, Text: text}
		}
		for _, s := range talks() {
			s.Fields = fields
			mustNotBe(t, "far off", s, api.ErrLength)
		}
	}
	for _, n := range []int{21846, 43691, 65536} {
		mustNotBe(t, "empty ones", api.Stream{Fields: make([]api.Field, n)}, api.ErrLength)
	}
}

// P18.1: ErrLength is told of a header that is too long alone: whatever else isn't as it may be is told first.
func TestTooLongAndElse(t *testing.T) {
	for _, total := range []int{65535, 65536, 66000} {
		for _, s := range talks()[1:] {
			long := withFollow(s, total, api.Field{Type: 1, Text: strings.Repeat("q", 1000)})
			for name, spoil := range map[string]func(s *api.Stream){
				"Local":           func(s *api.Stream) { s.Local, s.Src = true, s.Src+"x" },
				"Local of Family": func(s *api.Stream) { s.Local, s.Family = true, 1+s.Family },
				"Family -1":       func(s *api.Stream) { s.Family = -1 },
				"Family 5":        func(s *api.Stream) { s.Family = 5 },
				"Src":             func(s *api.Stream) { s.Src += "x" },
				"Dst":             func(s *api.Stream) { s.Dst += "x" },
				"SrcPort -1":      func(s *api.Stream) { s.SrcPort = -1 },
				"SrcPort 65536":   func(s *api.Stream) { s.SrcPort = 65536 },
				"DstPort -1":      func(s *api.Stream) { s.DstPort = -1 },
				"DstPort 65536":   func(s *api.Stream) { s.DstPort = 65536 },
				"first Type 3":    func(s *api.Stream) { s.Fields[0].Type = 3 },
				"last Type 3":     func(s *api.Stream) { s.Fields[1].Type = 3 },
				"last Type 256":   func(s *api.Stream) { s.Fields[1].Type = 256 },
				"one more":        func(s *api.Stream) { s.Fields = append(s.Fields, api.Field{Type: -1}) },
				"a long Text":     func(s *api.Stream) { s.Fields[0].Text = strings.Repeat("q", 65536) },
				"a last long Text": func(s *api.Stream) {
					s.Fields = append(s.Fields, api.Field{Type: 5, Text: strings.Repeat("q", 65536)})
				},
			} {
				spoilt := long
				spoilt.Fields = slices.Clone(long.Fields)
				spoil(&spoilt)
				mustNotBe(t, name, spoilt, api.ErrRange)
			}
		}
	}
}
