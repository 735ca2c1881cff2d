package vtwo_test

import (
	"strings"
	"testing"

	"palanquin/api"
)

// P18.2: the chapter's example, and others that are known byte by byte, alone and with bytes behind.
func TestGetKnownBytes(t *testing.T) {
	for _, x := range []struct {
		b    string
		want api.Stream
		size int
	}{
		{example, api.Stream{Local: true}, 16},
		{sign + "\x21\x00\x00\x00", api.Stream{}, 16},
		{sign + "\x20\x00\x00\x04\x09\x00\x01z", api.Stream{Local: true, Fields: []api.Field{{Type: 9, Text: "z"}}}, 20},
		{sign + "\x21\x00\x00\x06\x00\x00\x00\xff\x00\x00", api.Stream{Fields: []api.Field{{}, {Type: 255}}}, 22},
		{sign + "\x21\x11\x00\x0cabcdefgh\x01\x02\x03\x04", api.Stream{Family: api.TCP4, Src: "abcd", Dst: "efgh", SrcPort: 258, DstPort: 772}, 28},
		{sign + "\x21\x12\x00\x0cabcdefgh\x00\x00\xff\xff", api.Stream{Family: api.UDP4, Src: "abcd", Dst: "efgh", DstPort: 65535}, 28},
		{sign + "\x21\x21\x00\x24" + plain6 + other6 + "\xff\xff\x00\x00", api.Stream{Family: api.TCP6, Src: plain6, Dst: other6, SrcPort: 65535}, 52},
		{sign + "\x21\x22\x00\x2a" + plain6 + other6 + "\x80\x00\x00\x80\x02\x00\x03abc", api.Stream{Family: api.UDP6, Src: plain6, Dst: other6, SrcPort: 32768, DstPort: 128, Fields: []api.Field{{Type: 2, Text: "abc"}}}, 58},
	} {
		for _, behind := range []string{"", "GET /", "\x00", "\xff", "\x03\x00\x04", sign, x.b} {
			mustBe(t, "known", x.b+behind, x.want, false, x.size)
		}
	}
}

// heres are what may stand behind a byte that is wrong: nothing, little, and a whole header's rest.
func heres() []string {
	return []string{"", "\x00", "\x20", "\x21\x11", "\x21\x00\x00\x00", "\x00\x00\x00\x00", "\xff\xff\xff\xff", sign, example, header(0x21, 0x11, endpoints(api.TCP4)), strings.Repeat("x", 70000)}
}

// P18.2: every byte but its own at each of the sign's twelve places, whatever stands behind; longer ones and shorter ones.
func TestGetSign(t *testing.T) {
	for at := range sign {
		mustRefuse(t, "as far as it goes", sign[:at], api.ErrMore)
		for n := range 256 {
			other := byteText(byte(n))
			if sign[at:at+1] == other {
				continue
			}
			mustRefuse(t, "its end", sign[:at]+other, api.ErrSign)
			for _, behind := range heres() {
				mustRefuse(t, "other", withByte(sign, at, byte(n))+behind, api.ErrSign)
			}
			longer := sign[:at] + other + sign[at:]
			for size := at + 1; size <= len(longer); size++ {
				mustRefuse(t, "longer", longer[:size], api.ErrSign)
			}
			mustRefuse(t, "longer, with more behind", longer+example[12:], api.ErrSign)
		}
		// A byte less is seen as soon as another stands in its place.
		shorter := sign[:at] + sign[at+1:] + example[12:]
		for size := range len(shorter) + 1 {
			want := api.ErrMore
			if shorter[:min(size, 12)] != sign[:min(size, 12)] {
				want = api.ErrSign
			}
			mustRefuse(t, "shorter", shorter[:size], want)
		}
	}
	mustRefuse(t, "whole", sign, api.ErrMore)
}

// P18.2: texts that look like a sign, short and long.
func TestGetOtherSigns(t *testing.T) {
	for _, b := range []string{
		"P", "\x00", "\n", "G", " ", "\x0a\x0d", "\r\r", "\r\n\n", "\r\n\r\n\r", "\r\n\r\n\x00\n", "\r\n\r\n\x00\r\nquit\n", "\r\n\r\n\x00\r\nQUIT\r\n", "\r\n\r\n\x00\r\nQUIT\x00", "\r\n\r\n\r\nQUIT\n", "\n\n\x00\nQUIT\n", "\r\n\r\n0\r\nQUIT\n",
		"PROXY ", "PROXY TCP4 1.2.3.4 5.6.7.8 9 10\r\n", "PROXY UNKNOWN\r\n", "GET / HTTP/1.1\r\n", "\xff\xfe", "\x16\x03\x01", " " + sign, "\x00" + sign, "\r\n" + sign, "QUIT\n",
	} {
		for _, behind := range heres() {
			mustRefuse(t, "sign", b+behind, api.ErrSign)
		}
	}
}

// P18.2: each 13th byte, with nothing behind, and with each 14th byte and others there.
func TestGetEvery13thByte(t *testing.T) {
	for n := range 256 {
		want := api.ErrMore
		switch {
		case n/16 != 2:
			want = api.ErrVersion
		case n != 0x20 && n != 0x21:
			want = api.ErrForm
		}
		b := sign + byteText(byte(n))
		mustRefuse(t, "13th", b, want)
		for _, behind := range heres()[1:] {
			if e := mustGet(t, b+behind); want != api.ErrMore && e != want {
				t.Errorf("13th byte %02x: %v, want %v", n, e, want)
			}
		}
		for code := range 256 {
			if want != api.ErrMore {
				mustRefuse(t, "13th, with a 14th", b+byteText(byte(code)), want)
				mustRefuse(t, "13th, with all", b+byteText(byte(code))+"\x00\x00", want)
			}
		}
	}
	mustBe(t, "Local", sign+"\x20\x00\x00\x00", api.Stream{Local: true}, false, 16)
	mustBe(t, "not Local", sign+"\x21\x00\x00\x00", api.Stream{}, false, 16)
}

// P18.2: each 14th byte, Local and not, with nothing behind, and with others there.
func TestGetEvery14thByte(t *testing.T) {
	for _, bits := range []byte{0x20, 0x21} {
		for n := range 256 {
			b := sign + string([]byte{bits, byte(n)})
			want := api.ErrProto
			switch n {
			case 0x00, 0x11, 0x12, 0x21, 0x22:
				want = api.ErrMore
			}
			mustRefuse(t, "14th", b, want)
			mustRefuse(t, "14th, and one", b+"\x00", want)
			mustRefuse(t, "14th, and a byte of a number", b+"\xff", want)
			for _, behind := range heres()[1:] {
				if e := mustGet(t, b+behind); want == api.ErrProto && e != want {
					t.Errorf("14th byte %02x: %v", n, e)
				}
			}
			mustGet(t, b+"\x00\x24"+endpoints(api.TCP6))
			mustGet(t, b+"\x00\x0c"+endpoints(api.TCP4))
		}
	}
}

// P18.2: each of the 65536 pairs of a 13th and a 14th byte.
func TestGetEveryPairOfBytes(t *testing.T) {
	met := map[api.Errno]int{}
	for n := range 65536 {
		met[mustGet(t, sign+two(n)+"\x00\x24"+endpoints(api.TCP6))]++
	}
	// Of the family Unknown the endpoints are read as fields, and go behind the end.
	if met[api.ErrVersion] != 240*256 || met[api.ErrForm] != 14*256 || met[api.ErrProto] != 2*251 || met[api.OK]+met[api.ErrLength] != 10 || met[api.OK] < 4 {
		t.Errorf("met: %v", met)
	}
}

// P18.2: every number of bytes that are told to follow, with none of them there, and with some.
func TestGetNotAllThere(t *testing.T) {
	long := strings.Repeat("\x00", 65535)
	for n := range 65536 {
		for _, front := range []string{sign + "\x21\x11", sign + "\x20\x00"} {
			b := front + two(n)
			if n == 0 {
				mustGet(t, b)
				continue
			}
			mustRefuse(t, "none there", b, api.ErrMore)
			if n%4099 == 0 || n < 100 || n > 65530 {
				mustRefuse(t, "one there", b+"x", map[bool]api.Errno{true: api.ErrLength, false: api.ErrMore}[n == 1])
				mustRefuse(t, "all but one there", b+long[:n-1], api.ErrMore)
				mustGet(t, b+long[:n])
				mustGet(t, b+long)
			}
		}
	}
}

// P18.2: every length of what follows, for each family, Local too: what is less than its addresses and ports is too short, what
// isn't all there is asked for.
func TestGetEveryLengthOfWhatFollows(t *testing.T) {
	for family, code := range codes {
		size := len(endpoints(family))
		for _, bits := range []byte{0x20, 0x21} {
			want := api.Stream{Local: bits == 0x20}
			if n := lengths[family]; n > 0 && !want.Local {
				want = api.Stream{Family: family, Src: plain6[:n], Dst: other6[:n], SrcPort: 0x102, DstPort: 0x304}
			}
			for n := range size + 20 {
				// Behind the endpoints are the first bytes of a field that would have ten.
				whole := header(bits, code, (endpoints(family) + "\x08\x00\x0aabcdefghij")[:min(n, size+13)])
				for there := 16; there < len(whole); there++ {
					mustRefuse(t, "not all there", whole[:there], api.ErrMore)
				}
				for _, behind := range []string{"", "x", "\x00\x00\x00", endpoints(api.TCP6), example} {
					switch {
					case n == size:
						mustBe(t, "no fields", whole+behind, want, false, len(whole))
					case n >= size+13:
						with := want
						with.Fields = []api.Field{{Type: 8, Text: "abcdefghij"}}
						mustBe(t, "a field", whole+behind, with, false, len(whole))
					default:
						mustRefuse(t, "too short", whole+behind, api.ErrLength)
					}
				}
			}
		}
	}
}

// P18.2: what is less than the addresses and ports has, is too short whatever it says, be it fields that fit, or a seal.
func TestGetFieldsInsteadOfAddresses(t *testing.T) {
	for family, code := range codes {
		size := len(endpoints(family))
		for _, bits := range []byte{0x20, 0x21} {
			for _, behind := range []string{field(4, ""), field(4, "") + field(5, ""), field(4, "abcd"), field(3, "abcd"), field(4, "a") + field(3, "abcd"), field(4, strings.Repeat("a", 20)), strings.Repeat("\x00", 9), strings.Repeat("\x00", 30)} {
				if len(behind) < size {
					b := header(bits, code, behind)
					mustRefuse(t, "fields", b, api.ErrLength)
					mustRefuse(t, "fields", b+endpoints(family), api.ErrLength)
					if len(behind) >= 4 {
						mustRefuse(t, "fields, sealed", sealedAt(b, len(b)-4), api.ErrLength)
					}
				}
			}
		}
	}
}

// P18.2: the longest there may be, of each family, by one field and by many.
func TestGetLongest(t *testing.T) {
	for _, s := range talks() {
		long := withFollow(s, 65535)
		b := slowPut(long, false)
		mustBe(t, "one field", b+"more", long, false, 16+65535)
		mustRefuse(t, "all but one byte", b[:len(b)-1], api.ErrMore)
		long = withFollow(s, 65528, make([]api.Field, 20000)...)
		b = slowPut(long, true)
		mustBe(t, "many fields", b+"more", long, true, 16+65535)
		mustRefuse(t, "all but one byte", b[:len(b)-1], api.ErrMore)
	}
}

// P18.2: a Local header may be of any family, and have addresses: none of these is told, its fields are.
func TestGetLocalTellsNoAddresses(t *testing.T) {
	for family, code := range codes {
		for _, fields := range fieldLists() {
			behind := endpoints(family)
			for _, f := range fields {
				behind += field(f.Type, f.Text)
			}
			want := api.Stream{Local: true, Fields: fields}
			b := header(0x20, code, behind)
			mustBe(t, "without a seal", b+"x", want, false, len(b))
			b = header(0x20, code, behind+field(3, "zero"))
			b = sealedAt(b, len(b)-4)
			mustBe(t, "with a seal", b+"x", want, true, len(b))
			mustRefuse(t, "with a wrong seal", withByte(b, len(b)-1, b[len(b)-1]^1), api.ErrSum)
			for at := 16; at < 16+len(endpoints(family)); at++ {
				mustRefuse(t, "sealed, an address changed", withByte(b, at, b[at]^1), api.ErrSum)
			}
		}
	}
}
