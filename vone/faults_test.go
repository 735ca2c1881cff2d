package vone_test

import (
	"strings"
	"testing"

	"palanquin/api"
)

// P17.2: several faults at once: the sign's is told first, then that of the length, then that no line is there.
func TestGetSeveralFaults(t *testing.T) {
	long := strings.Repeat(" x", 60)
	for _, sign := range []string{"PROXY ", "PROXYx", "proxy ", "XROXY ", "PRO\nY ", "PROXY\n", "\n     ", "PROXY\r"} {
		for _, body := range []struct {
			text   string
			isLine bool // once it has its end
		}{
			{"UNKNOWN", true}, {"UNKNOWN ", true}, {"UNKNOWN x\ry", true}, {example[6:31], true}, {"TCP6 :: :: 0 0", true},
			{"", false}, {" ", false}, {"unknown", false}, {"UNKNOWNx", false}, {"UDP4" + example[10:31], false}, {"TCP6" + example[10:31], false}, {example[6:31] + " ", false}, {"TCP4 1.2.3.4 5.6.7.8 9", false}, {"TCP6 :: :: 0 00", false}, {"TCP6 :: 0:: 0 0", false},
		} {
			for _, end := range []struct {
				text string
				e    api.Errno // if the sign is right, and the line
				ends bool      // whether it has a byte 10 in time
			}{
				{"\r\n", api.OK, true}, {"\r\nx", api.OK, true}, {"\r\n" + long, api.OK, true}, {"\r\n" + example, api.OK, true},
				{"\n", api.ErrForm, true}, {"x\n", api.ErrForm, true}, {"\n\r\n", api.ErrForm, true}, {"\n" + long, api.ErrForm, true},
				{"", api.ErrMore, false}, {"\r", api.ErrMore, false}, {" x", api.ErrMore, false},
				{long, api.ErrLength, false}, {long + "\r\n", api.ErrLength, false}, {long + "\n", api.ErrLength, false}, {long + example, api.ErrLength, false}, {"\r" + long, api.ErrLength, false},
			} {
				b := sign + body.text + end.text
				want := end.e
				switch {
				case sign != "PROXY ":
					want = api.ErrSign
				case end.ends && !body.isLine:
					want = api.ErrForm
				}
				if e := mustGet(t, b); e != want {
					t.Errorf("Get(%s): %v, want %v", shown(b), e, want)
				}
			}
		}
	}
}
