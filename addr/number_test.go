package addr_test

import (
	"fmt"
	"math"
	"math/big"
	"strings"
	"testing"

	"palanquin/addr"
	"palanquin/api"
)

func itoa(n int) string { return fmt.Sprint(n) }

// slowNumber answers the number whose decimal digits s is, however many there are.
func slowNumber(s string, most int) (int, bool) {
	n, ok := new(big.Int).SetString(s, 10)
	if !ok || n.String() != s || n.Sign() < 0 || n.Cmp(big.NewInt(int64(most))) > 0 {
		return 0, false
	}
	return int(n.Int64()), true
}

// mustNumber holds Number against the slow one, and tells whether s is a number's digits.
func mustNumber(t *testing.T, s string, most int) bool {
	t.Helper()
	want, ok := slowNumber(s, most)
	wantErr := api.OK
	if !ok {
		wantErr = api.ErrForm
	}
	if got, e := addr.Number(s, most); got != want || e != wantErr {
		t.Fatalf("Number(%q, %d): %d %v, want %d %v", s, most, got, e, want, wantErr)
	}
	return ok
}

// P4.2: 0, most and one above it, for least, small and greatest ones.
func TestNumberAtItsEdges(t *testing.T) {
	for _, most := range []int{0, 1, 4, 9, 10, 99, 100, 255, 65535, 1 << 31, 1 << 32, math.MaxInt - 1, math.MaxInt} {
		for _, n := range []int{0, 1, most / 2, most - 1, most} {
			if n < 0 || n > most {
				continue
			}
			if got, e := addr.Number(itoa(n), most); got != n || e != api.OK {
				t.Errorf("Number(%d, %d): %d %v", n, most, got, e)
			}
		}
		above := new(big.Int).Add(big.NewInt(int64(most)), big.NewInt(1))
		for range 3 {
			if got, e := addr.Number(above.String(), most); got != 0 || e != api.ErrForm {
				t.Errorf("Number(%v, %d): %d %v", above, most, got, e)
			}
			above.Mul(above, big.NewInt(10))
		}
	}
}

// P4.2: with a most below 0 there is no number.
func TestNumberBelowNought(t *testing.T) {
	for _, most := range []int{-1, -2, -10, -65535, math.MinInt + 1, math.MinInt} {
		for _, s := range []string{"", "0", "1", "-1", "-2", "-10", "-0", "-9223372036854775808", "9223372036854775808", "18446744073709551615"} {
			if got, e := addr.Number(s, most); got != 0 || e != api.ErrForm {
				t.Errorf("Number(%q, %d): %d %v", s, most, got, e)
			}
		}
	}
}

// P4.2: what is no number's digits.
func TestNumberRefused(t *testing.T) {
	for _, s := range []string{
		"", " ", "00", "000", "01", "007", "0000000000000000000000000", "00000000000000000000000001",
		"-0", "+0", "-1", "+1", "--1", "-", "+", "1-", "1+", "1-1",
		" 1", "1 ", "1 2", "\t1", "1\n", "1\r\n", "\x001", "1\x00", "1,", "1.", "1.0", ".1", "1e1", "1E1", "0x1", "0b1", "0o1", "1_0", "0_1", "_1", "1_",
		"a", "1a", "a1", "x", "ff", "inf", "nan", "1/", "1:", "/", ":", "\uff11", "\u0661", "\u00b9", "\xff", "\xb1", "1\xff", "1\x80",
	} {
		for _, most := range []int{0, 9, 65535, math.MaxInt} {
			if got, e := addr.Number(s, most); got != 0 || e != api.ErrForm {
				t.Errorf("Number(%q, %d): %d %v", s, most, got, e)
			}
		}
	}
}

// P4.2: more digits than a number has, some of which wrap round to small ones.
func TestNumberOfManyDigits(t *testing.T) {
	for _, bits := range []uint{8, 16, 31, 32, 33, 62, 63, 64, 65, 127, 128, 1000} {
		for more := int64(-12); more <= 12; more++ {
			s := new(big.Int).Add(new(big.Int).Lsh(big.NewInt(1), bits), big.NewInt(more)).String()
			for _, most := range []int{-1, 0, 9, 65535, math.MaxInt, math.MinInt} {
				mustNumber(t, s, most)
			}
		}
	}
	for _, n := range []int{18, 19, 20, 21, 40, 1000, 1 << 16} {
		for _, digit := range []string{"0", "1", "9"} {
			for _, ahead := range []string{"", "0", "1", "-"} {
				mustNumber(t, ahead+strings.Repeat(digit, n), math.MaxInt)
			}
		}
	}
}

// P4.2: every short text of a few letters, and every byte there is, ahead of, within and behind digits.
func TestNumberOfEveryShortText(t *testing.T) {
	for _, most := range []int{-1, 0, 1, 9, 10, 190, 65535, math.MaxInt} {
		taken := 0
		spelt("019+-_x ", 4, func(s string) {
			if mustNumber(t, s, most) {
				taken++
			}
		})
		if taken == 0 && most >= 0 {
			t.Errorf("%d: none is a number's", most)
		}
	}
	for n := range 256 {
		b := string([]byte{byte(n)})
		for _, s := range []string{b, b + "1", "1" + b, "1" + b + "1", b + b} {
			mustNumber(t, s, math.MaxInt)
		}
	}
}

// P4.2: each port, and none above.
func TestPort(t *testing.T) {
	for n := -70000; n < 140000; n++ {
		want, wantErr := n, api.OK
		if n < 0 || n > 65535 {
			want, wantErr = 0, api.ErrForm
		}
		if got, e := addr.Port(itoa(n)); got != want || e != wantErr {
			t.Fatalf("%d: %d %v", n, got, e)
		}
	}
	for _, s := range []string{"", "00", "080", "+80", "-80", " 80", "80 ", "80\r", "http", "0x50", "8_0", "65536", "131072", "4294967376", "18446744073709551696"} {
		if got, e := addr.Port(s); got != 0 || e != api.ErrForm {
			t.Errorf("%q: %d %v", s, got, e)
		}
	}
}
