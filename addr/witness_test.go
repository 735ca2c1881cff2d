package addr_test

import (
	"fmt"
	"net/netip"
	"strings"
	"testing"

	"palanquin/addr"
	"palanquin/api"
)

// slowText is the chapter's word for word: of 4 bytes, or of 16.
func slowText(a string) string {
	if len(a) == 4 {
		return fmt.Sprintf("%d.%d.%d.%d", a[0], a[1], a[2], a[3])
	}
	var words []string
	for i := 0; i < 16; i += 2 {
		words = append(words, fmt.Sprintf("%x", int(a[i])*256+int(a[i+1])))
	}
	for length := 8; length >= 2; length-- {
		for first := 0; first+length <= 8; first++ {
			if strings.Join(words[first:first+length], "") == strings.Repeat("0", length) {
				return strings.Join(words[:first], ":") + "::" + strings.Join(words[first+length:], ":")
			}
		}
	}
	return strings.Join(words, ":")
}

// slowAddress answers the address whose text s is, if it is one's. The library reads more spellings than one.
func slowAddress(s string) (string, bool) {
	a, err := netip.ParseAddr(s)
	if err != nil || a.Zone() != "" || slowText(string(a.AsSlice())) != s {
		return "", false
	}
	return string(a.AsSlice()), true
}

// mustParse holds Parse against the slow one, and tells whether s is an address's text.
func mustParse(t *testing.T, s string) bool {
	t.Helper()
	want, ok := slowAddress(s)
	wantErr := api.OK
	if !ok {
		wantErr = api.ErrForm
	}
	if got, e := addr.Parse(s); got != want || e != wantErr {
		t.Fatalf("Parse(%q): %q %v, want %q %v", s, got, e, want, wantErr)
	}
	return ok
}

// mustPrint holds Print against the slow one, and what it answers must be parsed as it was.
func mustPrint(t *testing.T, a string) string {
	t.Helper()
	s, e := addr.Print(a)
	if want := slowText(a); s != want || e != api.OK {
		t.Fatalf("Print(%q): %q %v, want %q", a, s, e, want)
	}
	if got, e := addr.Parse(s); got != a || e != api.OK {
		t.Fatalf("Parse(%q): %q %v, want %q", s, got, e, a)
	}
	return s
}

// draws tells the same numbers at every run.
func draws(seed uint64) func() uint32 {
	return func() uint32 {
		seed = seed*6364136223846793005 + 1442695040888963407
		return uint32(seed >> 32)
	}
}

// drawnAddress answers an address of so many bytes, of which many are 0.
func drawnAddress(draw func() uint32, length int) string {
	a := make([]byte, length)
	for i := 0; i < length; i += 2 {
		switch draw() % 4 {
		case 0:
			a[i], a[i+1] = byte(draw()), byte(draw())
		case 1:
			a[i+1] = byte(draw())
		}
	}
	return string(a)
}

// of16 answers the address of eight numbers.
func of16(numbers ...int) string {
	a := make([]byte, 0, 16)
	for _, n := range numbers {
		a = append(a, byte(n>>8), byte(n))
	}
	return string(a)
}

// spelt hands do every text of at most so many of these letters.
func spelt(letters string, most int, do func(s string)) {
	var longer func(s string)
	longer = func(s string) {
		do(s)
		if len(s) == most {
			return
		}
		for i := range len(letters) {
			longer(s + letters[i:i+1])
		}
	}
	longer("")
}
