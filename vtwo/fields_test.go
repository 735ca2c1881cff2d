package vtwo_test

import (
	"math/rand"
	"slices"
	"strings"
	"testing"

	"palanquin/api"
)

// fronts are what stands ahead of fields: each family, Local and not, with what is told of it.
func fronts() []front {
	var list []front
	for family := range 5 {
		for _, bits := range []byte{0x20, 0x21} {
			want := api.Stream{Local: bits == 0x20}
			if n := lengths[family]; n > 0 && !want.Local {
				want = api.Stream{Family: family, Src: plain6[:n], Dst: other6[:n], SrcPort: 0x102, DstPort: 0x304}
			}
			list = append(list, front{bits, codes[family], endpoints(family), want})
		}
	}
	return list
}

type front struct {
	bits, code byte
	endpoints  string
	want       api.Stream
}

// with is the front with what stands behind its endpoints.
func (x front) with(behind string) string { return header(x.bits, x.code, x.endpoints+behind) }

// told is the front's header with fields.
func (x front) told(fields ...api.Field) api.Stream {
	s := x.want
	s.Fields = fields
	return s
}

// P18.2: fields that end just at the end, one byte behind it, and that have one byte or two alone.
func TestFieldsAtTheEnd(t *testing.T) {
	for _, x := range fronts() {
		for n := range 20 {
			text := strings.Repeat("t", n)
			f := api.Field{Type: 9, Text: text}
			for _, ahead := range [][]api.Field{nil, {{Type: 1}}, {{Type: 2, Text: "ab"}, {Type: 0, Text: "c"}}} {
				bytes := ""
				for _, a := range ahead {
					bytes += field(a.Type, a.Text)
				}
				b := x.with(bytes + field(9, text))
				mustBe(t, "just at the end", b, x.told(append(slices.Clone(ahead), f)...), false, len(b))
				for _, less := range []int{1, 2, 3, n, n + 1, n + 2} {
					if less <= 0 || less >= n+3 {
						continue
					}
					// The number of bytes that follow is that of what is left, so that more behind isn't the field's.
					b := x.with(bytes + field(9, text)[:n+3-less])
					mustRefuse(t, "behind the end", b, api.ErrLength)
					mustRefuse(t, "behind the end, though more is there", b+strings.Repeat("t", 100), api.ErrLength)
				}
				for _, stray := range []string{"\x01", "\x03", "\x00", "\xff", "\x01\x00", "\x03\x00", "\x00\x00", "\x01\x01", "\xff\xff", "\x01\x00\x01", "\x03\x00\x04", "\x00\xff\xff", "\x03\x00\x04abc"} {
					b := x.with(bytes + field(9, text) + stray)
					mustRefuse(t, "stray bytes", b, api.ErrLength)
					mustRefuse(t, "stray bytes, and more", b+"\x00\x00\x00\x00\x00", api.ErrLength)
				}
			}
		}
	}
}

// P18.2: every number of bytes that a field tells, where so many, more, and less are left.
func TestFieldsOfEveryLength(t *testing.T) {
	text := strings.Repeat("t", 65535)
	for n := range 65536 {
		b := sign + "\x20\x00\x00\x0d\x07" + two(n) + text[:10]
		switch {
		case n > 10:
			mustRefuse(t, "too long", b+text[:20], api.ErrLength)
		case n == 10:
			mustBe(t, "just", b, api.Stream{Local: true, Fields: []api.Field{{Type: 7, Text: text[:10]}}}, false, 29)
		default:
			mustGet(t, b)
		}
		if n%4099 == 0 || n > 65525 {
			mustGet(t, header(0x21, 0x00, field(7, text[:min(n, 65532)])))
			mustGet(t, header(0x21, 0x11, endpoints(api.TCP4)+field(7, text[:min(n, 65520)])))
			mustGet(t, header(0x21, 0x00, "\x07"+two(n)+text[:min(n, 65531)]))
		}
	}
}

// P18.2: fields of every Type but 3 are told, with their Texts, in their order.
func TestFieldsOfEveryType(t *testing.T) {
	for _, x := range fronts() {
		var all []api.Field
		bytes := ""
		for n := range 256 {
			if n == 3 {
				continue
			}
			f := api.Field{Type: n, Text: strings.Repeat(byteText(byte(n)), n%7)}
			all = append(all, f)
			bytes += field(f.Type, f.Text)
			b := x.with(field(n, "abcd"))
			mustBe(t, "alone", b, x.told(api.Field{Type: n, Text: "abcd"}), false, len(b))
		}
		b := x.with(bytes)
		mustBe(t, "all", b, x.told(all...), false, len(b))
		slices.Reverse(all)
		bytes = ""
		for _, f := range all {
			bytes += field(f.Type, f.Text)
		}
		b = x.with(bytes)
		mustBe(t, "all, the last one first", b, x.told(all...), false, len(b))
	}
}

// row is a list of fields, with the place among them where a seal is put.
type row struct {
	fields []api.Field
	at     int
}

// rows have the seal alone, first, in the middle and last.
func rows() []row {
	a, b, c := api.Field{Type: 1, Text: "abcd"}, api.Field{Type: 4}, api.Field{Type: 255, Text: "\x03\x00\x04zzzz"}
	return []row{{nil, 0}, {[]api.Field{a}, 0}, {[]api.Field{a}, 1}, {[]api.Field{a, b, c}, 0}, {[]api.Field{a, b, c}, 1}, {[]api.Field{a, b, c}, 2}, {[]api.Field{a, b, c}, 3}}
}

// sealed is the front with a row, the seal's number right, and where that stands.
func (x front) sealed(r row) (string, int) {
	bytes, place := "", 0
	for i := range len(r.fields) + 1 {
		if i == r.at {
			bytes += field(3, "zero")
			place = 16 + len(x.endpoints) + len(bytes) - 4
		}
		if i < len(r.fields) {
			bytes += field(r.fields[i].Type, r.fields[i].Text)
		}
	}
	return sealedAt(x.with(bytes), place), place
}

// P18.2: a seal first, in the middle, last and alone: it isn't told among the others, but that it was there.
func TestSealAtEachPlace(t *testing.T) {
	for _, x := range fronts() {
		for _, r := range rows() {
			b, _ := x.sealed(r)
			for _, behind := range []string{"", "x", field(3, "abcd"), b, strings.Repeat("y", 1000)} {
				mustBe(t, "sealed", b+behind, x.told(r.fields...), true, len(b))
			}
			for there := range b {
				mustRefuse(t, "a beginning", b[:there], api.ErrMore)
			}
		}
	}
}

// P18.2: fields of the Type 3 of all numbers of bytes but four, first, in the middle and last.
func TestSealsOfOtherLengths(t *testing.T) {
	for _, x := range fronts() {
		for _, n := range []int{0, 1, 2, 3, 5, 6, 7, 8, 16, 255, 256, 260, 1024, 65000} {
			bad := field(3, strings.Repeat("s", n))
			for _, b := range []string{bad, bad + field(1, "a"), field(1, "a") + bad, field(1, "a") + bad + field(2, ""), bad + bad, bad + field(3, "abcd"), field(3, "abcd") + bad, field(3, "abcd") + field(3, "abcd") + bad, bad + field(3, "abcd") + field(3, "abcd")} {
				if len(b) < 60000 || n == 65000 && len(b) < 65480 {
					mustRefuse(t, "length of a seal", x.with(b), api.ErrLength)
					mustRefuse(t, "length of a seal", x.with(b)+"abcd", api.ErrLength)
				}
			}
			// One with a right number stands beside.
			for _, ahead := range []bool{true, false} {
				b, at := x.with(bad+field(3, "zero")), 16+len(x.endpoints)+len(bad)+3
				if ahead {
					b, at = x.with(field(3, "zero")+bad), 16+len(x.endpoints)+3
				}
				mustRefuse(t, "beside a right one", sealedAt(b, at), api.ErrLength)
			}
		}
	}
}

// P18.2: two fields of the Type 3, and three: right and wrong, and a field that goes behind the end, or is of another length, with them.
func TestTwoSeals(t *testing.T) {
	draw := rand.New(rand.NewSource(183))
	for _, x := range fronts() {
		for _, between := range []string{"", field(1, "a"), field(4, "") + field(5, "bcd")} {
			front := 16 + len(x.endpoints)
			first, second := front+3, front+7+len(between)+3
			b := x.with(field(3, "abcd") + between + field(3, "efgh"))
			mustRefuse(t, "both wrong", b, api.ErrTwice)
			mustRefuse(t, "both 00", x.with(field(3, "\x00\x00\x00\x00")+between+field(3, "\x00\x00\x00\x00")), api.ErrTwice)
			mustRefuse(t, "the first right", sealedAt(b, first), api.ErrTwice)
			mustRefuse(t, "the second right", sealedAt(b, second), api.ErrTwice)
			mustRefuse(t, "one right, then the other", sealedAt(sealedAt(b, first), second), api.ErrTwice)
			alone, _ := x.sealed(row{})
			mustRefuse(t, "the same again", x.with(alone[len(alone)-7:]+between+alone[len(alone)-7:]), api.ErrTwice)
			mustRefuse(t, "three", x.with(field(3, "abcd")+between+field(3, "efgh")+field(3, "ijkl")), api.ErrTwice)
			mustRefuse(t, "many", x.with(between+strings.Repeat(field(3, "abcd"), 200)), api.ErrTwice)
			mustRefuse(t, "with others", x.with(field(9, "z")+field(3, "abcd")+between+field(3, "efgh")+field(9, "z")), api.ErrTwice)
			for _, stray := range []string{"\x01", "\x03", "\x01\x00", "\x01\x00\x01", "\x03\x00\x04abc", "\x03\x00\x00", "\x03\x00\x03abc", "\x03\x00\x05abcde"} {
				mustRefuse(t, "and a stray one", x.with(field(3, "abcd")+between+field(3, "efgh")+stray), api.ErrLength)
				mustRefuse(t, "one, and a stray one", x.with(field(3, "abcd")+between+stray), api.ErrLength)
			}
			for range 20 {
				mustRefuse(t, "drawn", x.with(field(3, drawnText(draw, 4))+between+field(3, drawnText(draw, 4))), api.ErrTwice)
			}
		}
	}
}

// P18.2: each bit of the number turned alone, each byte another, and numbers that are nearly right.
func TestWrongSeals(t *testing.T) {
	for _, x := range fronts() {
		for _, r := range rows() {
			b, at := x.sealed(r)
			right := b[at : at+4]
			for i := range 4 {
				for n := range 256 {
					if other := withByte(b, at+i, byte(n)); other != b {
						mustRefuse(t, "a byte", other, api.ErrSum)
					}
				}
			}
			turned := ""
			for i := range 4 {
				turned += byteText(^right[i])
			}
			for _, number := range []string{"\x00\x00\x00\x00", "\xff\xff\xff\xff", turned, right[1:] + right[:1], right[2:] + right[:2], byteText(right[3]) + byteText(right[2]) + byteText(right[1]) + byteText(right[0])} {
				if number != right {
					mustRefuse(t, "a number", b[:at]+number+b[at+4:], api.ErrSum)
				}
			}
			// The sum of the bytes as they stand, of all but the number's, and of more isn't that of them with 00 there.
			zeros := b[:at] + "\x00\x00\x00\x00" + b[at+4:]
			for _, text := range []string{b, b[:at] + b[at+4:], zeros[16:], zeros[12:], b[:at-3] + b[at+4:], zeros + "x", zeros + "\x00"} {
				mustRefuse(t, "another's sum", b[:at]+numberOf(text)+b[at+4:]+"x", api.ErrSum)
			}
			mustBe(t, "its own sum", b[:at]+numberOf(zeros)+b[at+4:]+"x", x.told(r.fields...), true, len(b))
		}
	}
}

// P18.2: a byte that changed elsewhere makes the number wrong, if no other question tells it; what stands behind plays no part.
func TestChangedBytesUnderASeal(t *testing.T) {
	met := map[api.Errno]int{}
	for _, x := range fronts() {
		for _, r := range rows() {
			b, at := x.sealed(r)
			for i := range b {
				for bit := range 8 {
					e := mustGet(t, withByte(b, i, b[i]^1<<bit)+strings.Repeat("x", 300))
					met[e]++
					if i >= 16 && i < 16+len(x.endpoints) && e != api.ErrSum {
						t.Errorf("%s: byte %d, bit %d: %v", shown(b), i, bit, e)
					}
				}
			}
			for _, f := range r.fields {
				if f.Text == "abcd" {
					changed := strings.Replace(b, "abcd", "abce", 1)
					mustRefuse(t, "a Text", changed, api.ErrSum)
					if e := mustGet(t, sealedAt(changed, at)); e != api.OK {
						t.Errorf("a Text, sealed again: %v", e)
					}
				}
			}
		}
	}
	if met[api.ErrSum] < 5000 || met[api.OK] == 0 {
		t.Errorf("met: %v", met)
	}
}

// P18.2: every row of a few fields and stray bytes, with the last seal's number right where there is one.
func TestEveryRowOfFields(t *testing.T) {
	pieces := []string{field(1, "a"), field(4, ""), field(3, "zero"), field(3, "wro"), field(3, ""), field(3, "fiver"), field(2, "\x03\x00\x04zero"), "\x03", "\x03\x00", "\x03\x00\x04zer", "\x00"}
	met := map[api.Errno]int{}
	for _, x := range fronts() {
		var longer func(bytes string, at, left int)
		longer = func(bytes string, at, left int) {
			b := x.with(bytes)
			if at > 0 {
				b = sealedAt(b, 16+len(x.endpoints)+at)
			}
			met[mustGet(t, b)]++
			met[mustGet(t, withByte(b, len(b)-1, b[len(b)-1]^1))]++
			if left == 0 {
				return
			}
			for i, piece := range pieces {
				if i == 2 {
					longer(bytes+piece, len(bytes)+3, left-1)
				} else {
					longer(bytes+piece, at, left-1)
				}
			}
		}
		longer("", 0, 3)
	}
	for _, e := range []api.Errno{api.OK, api.ErrLength, api.ErrTwice, api.ErrSum} {
		if met[e] < 100 {
			t.Errorf("error %v was met %d times", e, met[e])
		}
	}
}

// P18.2: every short text of a few bytes as what follows.
func TestEveryShortBlock(t *testing.T) {
	met := map[api.Errno]int{}
	for _, code := range []byte{0x00, 0x11} {
		ahead := ""
		if code == 0x11 {
			ahead = endpoints(api.TCP4)
		}
		var longer func(text string)
		longer = func(text string) {
			met[mustGet(t, header(0x21, code, ahead+text))]++
			if len(text) == 8 {
				return
			}
			for _, c := range []byte{0, 1, 3, 4} {
				longer(text + byteText(c))
			}
		}
		longer("")
	}
	if met[api.OK] < 1000 || met[api.ErrLength] < 1000 || met[api.ErrSum] < 2 {
		t.Errorf("met: %v", met)
	}
}
