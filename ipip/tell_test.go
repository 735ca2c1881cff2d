package ipip_test

import (
	"math/rand"
	"testing"

	"palanquin/api"
	"palanquin/ipip"
)

// P11.1: the chapter's examples: 45 .. is of the protocol 4, 60 .. of 41.
func TestTellExamples(t *testing.T) {
	for _, behind := range behinds() {
		mustBe(t, "\x45"+behind, 4, 0x0800)
		mustBe(t, "\x60"+behind, 41, 0x86dd)
	}
}

// P11.1: ordinary packets of both versions, and every beginning of them.
func TestTellPackets(t *testing.T) {
	for n := 1; n <= len(whole4); n++ {
		mustBe(t, whole4[:n], 4, 0x0800)
	}
	for n := 1; n <= len(whole6); n++ {
		mustBe(t, whole6[:n], 41, 0x86dd)
	}
}

// P11.1: the empty text is too short, and no other one is.
func TestTellEmpty(t *testing.T) {
	mustRefuse(t, "", api.ErrShort)
	mustRefuse(t, "\x00", api.ErrVersion)
}

// P11.1: texts of one byte, whatever its last four bits are.
func TestTellOneByte(t *testing.T) {
	for bits := range 16 {
		for last := range 16 {
			switch one := byteText(16*bits + last); bits {
			case 4:
				mustBe(t, one, 4, 0x0800)
			case 6:
				mustBe(t, one, 41, 0x86dd)
			default:
				mustRefuse(t, one, api.ErrVersion)
			}
		}
	}
}

// P11.1: every first byte, whatever stands behind it: its first four bits alone tell.
func TestTellEveryFirstByte(t *testing.T) {
	for first := range 256 {
		for _, behind := range behinds() {
			mustTell(t, byteText(first)+behind)
		}
		for second := range 256 {
			mustTell(t, byteText(first)+byteText(second))
		}
	}
}

// P11.1: drawn texts of many lengths.
func TestTellDrawn(t *testing.T) {
	draw := rand.New(rand.NewSource(111))
	met := map[api.Errno]int{}
	for range 50000 {
		met[mustTell(t, drawnText(draw, draw.Intn(120)))]++
	}
	if met[api.OK] < 1000 || met[api.ErrVersion] < 1000 || met[api.ErrShort] < 100 {
		t.Errorf("met: %v", met)
	}
}

// P11.1: the same call answers the same, whatever was called between.
func TestTellTwice(t *testing.T) {
	for range 3 {
		mustBe(t, whole4, 4, 0x0800)
		mustBe(t, whole6, 41, 0x86dd)
		mustRefuse(t, "", api.ErrShort)
		mustRefuse(t, "\x50", api.ErrVersion)
		ipip.Get(41, whole6)
		ipip.Get(4, whole6)
	}
}
