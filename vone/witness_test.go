package vone_test

import (
	"fmt"
	"math"
	"math/rand"
	"net/netip"
	"regexp"
	"strconv"
	"strings"
	"testing"

	"palanquin/api"
	"palanquin/vone"
)

// Addresses whose texts are the shortest and the longest, and some between.
const (
	least4    = "\x00\x00\x00\x00"
	greatest4 = "\xff\xff\xff\xff"
	plain4    = "\x01\x02\x03\x04"
	other4    = "\x05\x06\x07\x08"
	least6    = "\x00\x00\x00\x00\x00\x00\x00\x00\x00\x00\x00\x00\x00\x00\x00\x00"
	greatest6 = "\xff\xff\xff\xff\xff\xff\xff\xff\xff\xff\xff\xff\xff\xff\xff\xff"
	plain6    = "\x20\x01\x0d\xb8\x00\x00\x00\x00\x00\x00\x00\x00\x00\x00\x00\x01"
	other6    = "\x00\x01\x00\x00\x00\x00\x00\x00\x00\x02\x00\x00\x00\x00\x00\x03"
)

// example is the chapter's.
const example = "PROXY TCP4 1.2.3.4 5.6.7.8 9 10\r\n"

// headers are such as may be a line: of each Family, with the shortest and with the longest line among them.
func headers() []api.Stream {
	return []api.Stream{
		{},
		{Family: api.TCP4, Src: plain4, Dst: other4, SrcPort: 9, DstPort: 10},
		{Family: api.TCP4, Src: least4, Dst: least4},
		{Family: api.TCP4, Src: greatest4, Dst: greatest4, SrcPort: 65535, DstPort: 65535},
		{Family: api.TCP6, Src: plain6, Dst: other6, SrcPort: 40000, DstPort: 443},
		{Family: api.TCP6, Src: least6, Dst: least6},
		{Family: api.TCP6, Src: greatest6, Dst: greatest6, SrcPort: 65535, DstPort: 65535},
	}
}

// lines are those of the headers.
func lines() []string {
	var list []string
	for _, s := range headers() {
		list = append(list, slowLine(s))
	}
	return list
}

// slowAddress is the text of an address, word for word as layer 4's chapter has it.
func slowAddress(a string) string {
	if len(a) == 4 {
		return fmt.Sprintf("%d.%d.%d.%d", a[0], a[1], a[2], a[3])
	}
	var words []string
	for i := 0; i < 16; i += 2 {
		words = append(words, fmt.Sprintf("%x", int(a[i])*256+int(a[i+1])))
	}
	for length := 8; length >= 2; length-- {
		for first := 0; first+length <= 8; first++ {
			if strings.Join(words[first:first+length], "") == strings.Repeat("0", length) {
				return strings.Join(words[:first], ":") + "::" + strings.Join(words[first+length:], ":")
			}
		}
	}
	return strings.Join(words, ":")
}

// slowLine is the line of a header that may be one.
func slowLine(s api.Stream) string {
	if s.Family == api.Unknown {
		return "PROXY UNKNOWN\r\n"
	}
	name := map[int]string{api.TCP4: "TCP4", api.TCP6: "TCP6"}[s.Family]
	return fmt.Sprintf("PROXY %s %s %s %d %d\r\n", name, slowAddress(s.Src), slowAddress(s.Dst), s.SrcPort, s.DstPort)
}

// slowMayBe asks the chapter's questions about a header.
func slowMayBe(s api.Stream) bool {
	if s.Local || len(s.Fields) > 0 {
		return false
	}
	length := map[int]int{api.TCP4: 4, api.TCP6: 16}[s.Family]
	if length == 0 {
		return s.Family == 0 && s.Src+s.Dst == "" && s.SrcPort == 0 && s.DstPort == 0
	}
	for _, port := range []int{s.SrcPort, s.DstPort} {
		if port < 0 || 65535 < port {
			return false
		}
	}
	return len(s.Src) == length && len(s.Dst) == length
}

// isLine is a line, but for its words' meanings.
var isLine = regexp.MustCompile(`\APROXY (?:UNKNOWN(?: [^\n]*)?|(TCP4|TCP6) ([^ \n]+) ([^ \n]+) (0|[1-9][0-9]{0,4}) (0|[1-9][0-9]{0,4}))\r\n\z`)

// slowRead is what a text says that is a line, whole.
func slowRead(text string) (api.Stream, bool) {
	found := isLine.FindStringSubmatch(text)
	if found == nil || found[1] == "" {
		return api.Stream{}, found != nil
	}
	s := api.Stream{Family: map[string]int{"TCP4": api.TCP4, "TCP6": api.TCP6}[found[1]]}
	s.Src, s.Dst = slowParse(found[2]), slowParse(found[3])
	s.SrcPort, _ = strconv.Atoi(found[4])
	s.DstPort, _ = strconv.Atoi(found[5])
	if !slowMayBe(s) {
		return api.Stream{}, false
	}
	return s, true
}

// slowParse is the address whose text s is, or no bytes. The library reads more spellings than one.
func slowParse(s string) string {
	a, err := netip.ParseAddr(s)
	if err != nil || a.Zone() != "" || slowAddress(string(a.AsSlice())) != s {
		return ""
	}
	return string(a.AsSlice())
}

// slowGet asks the chapter's questions byte by byte.
func slowGet(b string) (api.Stream, int, api.Errno) {
	for i := 0; i < len(b) && i < 6; i++ {
		if b[i] != "PROXY "[i] {
			return api.Stream{}, 0, api.ErrSign
		}
	}
	for i := 0; i < len(b) && i < 107; i++ {
		if b[i] != 10 {
			continue
		}
		if s, ok := slowRead(b[:i+1]); ok {
			return s, i + 1, api.OK
		}
		return api.Stream{}, 0, api.ErrForm
	}
	if len(b) >= 107 {
		return api.Stream{}, 0, api.ErrLength
	}
	return api.Stream{}, 0, api.ErrMore
}

func same(a, b api.Stream) bool {
	if len(a.Fields) != len(b.Fields) {
		return false
	}
	for i := range a.Fields {
		if a.Fields[i] != b.Fields[i] {
			return false
		}
	}
	return a.Local == b.Local && a.Family == b.Family && a.Src == b.Src && a.Dst == b.Dst && a.SrcPort == b.SrcPort && a.DstPort == b.DstPort
}

// mustAsk holds Check and Put against the slow ones, and tells whether the header may be a line.
func mustAsk(t *testing.T, s api.Stream) bool {
	t.Helper()
	want, line := api.ErrRange, ""
	if slowMayBe(s) {
		want, line = api.OK, slowLine(s)
	}
	if e := vone.Check(s); e != want {
		t.Fatalf("Check(%s): %v, want %v", told(s), e, want)
	}
	if b, e := vone.Put(s); b != line || e != want {
		t.Fatalf("Put(%s): %q, %v; want %q, %v", told(s), b, e, line, want)
	}
	return want == api.OK
}

// mustNotBe says that neither Check nor Put may let a header by.
func mustNotBe(t *testing.T, why string, s api.Stream) {
	t.Helper()
	if e := vone.Check(s); e != api.ErrRange {
		t.Errorf("%s: Check(%s): %v", why, told(s), e)
	}
	if b, e := vone.Put(s); b != "" || e != api.ErrRange {
		t.Errorf("%s: Put(%s): %q, %v", why, told(s), b, e)
	}
}

// mustGet holds Get against the slow one, and tells the error.
func mustGet(t *testing.T, b string) api.Errno {
	t.Helper()
	s, n, e := vone.Get(b)
	wantS, wantN, want := slowGet(b)
	if !same(s, wantS) || n != wantN || e != want {
		t.Fatalf("Get(%s): %s, %d, %v; want %s, %d, %v", shown(b), told(s), n, e, told(wantS), wantN, want)
	}
	return e
}

// mustRefuse says what error Get must tell, with the zero header and no number of bytes.
func mustRefuse(t *testing.T, why, b string, want api.Errno) {
	t.Helper()
	if s, n, e := vone.Get(b); e != want || n != 0 || !same(s, api.Stream{}) {
		t.Errorf("%s: Get(%s): %s, %d, %v; want %v", why, shown(b), told(s), n, e, want)
	}
}

// mustBe says what header Get must tell, and of how many bytes.
func mustBe(t *testing.T, why, b string, want api.Stream, length int) {
	t.Helper()
	if s, n, e := vone.Get(b); e != api.OK || n != length || !same(s, want) {
		t.Errorf("%s: Get(%s): %s, %d, %v; want %s, %d", why, shown(b), told(s), n, e, told(want), length)
	}
}

// told is a header, cut to what a message has room for.
func told(s api.Stream) string {
	return fmt.Sprintf("{Local %v, Family %d, %s, %s, %d, %d, %d Fields}", s.Local, s.Family, shown(s.Src), shown(s.Dst), s.SrcPort, s.DstPort, len(s.Fields))
}

func shown(b string) string {
	if len(b) > 200 {
		return fmt.Sprintf("%q.. of %d bytes", b[:200], len(b))
	}
	return fmt.Sprintf("%q", b)
}

// withByte is b with another byte at a place.
func withByte(b string, at int, x byte) string { return b[:at] + string([]byte{x}) + b[at+1:] }

// fitting are ports, the least and the greatest among them.
func fitting() []int {
	return []int{0, 1, 9, 10, 99, 100, 255, 256, 999, 1000, 9999, 10000, 32767, 32768, 65534, 65535}
}

// tooFar are none, among them such as wrap round to one.
func tooFar() []int {
	return []int{-1, -2, -9, -65535, -65536, 65536, 65537, 65545, 99999, 100000, 131071, 1 << 20, 1 << 31, 1 << 32, 1<<32 + 9, -1 << 32, math.MaxInt, math.MinInt, math.MinInt + 1}
}

// strange are Families that no line has.
func strange() []int {
	list := []int{api.UDP4, api.UDP6, 1 << 8, 1<<8 + 1, 1 << 16, 1<<16 + 2, 1 << 32, 1<<32 + 1, 1<<32 + 2, -1 << 32, math.MaxInt, math.MinInt, math.MinInt + 1, math.MinInt + 2}
	for n := 1; n < 40; n++ {
		list = append(list, -n, 4+n)
	}
	return list
}

// spelt hands do every text of at most so many of these letters.
func spelt(letters string, most int, do func(s string)) {
	var longer func(s string)
	longer = func(s string) {
		do(s)
		if len(s) == most {
			return
		}
		for i := range len(letters) {
			longer(s + letters[i:i+1])
		}
	}
	longer("")
}

func drawnText(draw *rand.Rand, length int) string {
	text := make([]byte, length)
	draw.Read(text)
	return string(text)
}

// drawnAddress is one of so many bytes, of which many are 0.
func drawnAddress(draw *rand.Rand, length int) string {
	a := make([]byte, length)
	for i := range a {
		if draw.Intn(3) == 0 {
			a[i] = byte(draw.Intn(256))
		}
	}
	if draw.Intn(2) == 0 {
		clear(a[draw.Intn(length):])
	}
	return string(a)
}

// drawnHeader is one that may be a line.
func drawnHeader(draw *rand.Rand) api.Stream {
	s := api.Stream{Family: draw.Intn(3)}
	length := map[int]int{api.TCP4: 4, api.TCP6: 16}[s.Family]
	if length > 0 {
		s.Src, s.Dst = drawnAddress(draw, length), drawnAddress(draw, length)
		s.SrcPort, s.DstPort = draw.Intn(65536)>>draw.Intn(16), draw.Intn(65536)>>draw.Intn(16)
	}
	return s
}
