package frag_test

import (
	"math/rand"
	"testing"

	"palanquin/api"
)

// mustBeWhole says what P15.3 does of pieces: none has more bytes than the mtu, and their payloads are the packet's; and each stands at its place.
func mustBeWhole(t *testing.T, p string, mtu int, list []string) {
	t.Helper()
	if payloads(list) != p[header(p):] {
		t.Fatalf("%s by %d: payloads %s", shown(p), mtu, shown(payloads(list)))
	}
	ahead := 0
	for i, piece := range list {
		if len(piece) > mtu {
			t.Fatalf("%s by %d: piece %d has %d bytes", shown(p), mtu, i, len(piece))
		}
		if slowGet(piece) != api.OK || 8*(offset(piece)-offset(p)) != ahead || more(piece) != (more(p) || i < len(list)-1) {
			t.Fatalf("%s by %d: piece %d is %s", shown(p), mtu, i, shown(piece))
		}
		ahead += len(piece) - header(piece)
	}
}

// cutAgain cuts each piece.
func cutAgain(t *testing.T, list []string, mtu int) []string {
	t.Helper()
	var again []string
	for _, p := range list {
		again = append(again, mustCut(t, p, mtu)...)
	}
	return again
}

// P15.3: packets of every small number of bytes, by every mtu that has room.
func TestRoundEverySmall(t *testing.T) {
	for _, options := range []int{0, 12, 40} {
		for payload := range 90 {
			p := plain(options, payload).text()
			for mtu := 28 + options; mtu <= len(p)+1; mtu++ {
				mustBeWhole(t, p, mtu, mustCut(t, p, mtu))
			}
		}
	}
}

// P15.3: packets of many bytes, and drawn ones, by mtus of every size.
func TestRoundGreat(t *testing.T) {
	draw := rand.New(rand.NewSource(158))
	for range 300 {
		m := drawnPacket(draw, 65475)
		m.offset = 0
		p := m.text()
		mtu := min(68+draw.Intn(1<<(1+draw.Intn(16))), 65535)
		mustBeWhole(t, p, mtu, mustCut(t, p, mtu))
	}
	for _, options := range []int{0, 40} {
		p := plain(options, 65515-options).text()
		for _, mtu := range []int{28 + options, 68, 576, 1500, 65534, 65535} {
			mustBeWhole(t, p, mtu, mustCut(t, p, mtu))
		}
	}
}

// P15.3: drawn packets, whole ones and pieces.
func TestRoundDrawn(t *testing.T) {
	draw := rand.New(rand.NewSource(159))
	for range 10000 {
		p := drawnPacket(draw, 1<<draw.Intn(12)).text()
		mtu := 68 + draw.Intn(len(p)+10)
		mustBeWhole(t, p, mtu, mustCut(t, p, mtu))
	}
}

// P15.3: pieces that are cut again, and again, by other mtus, have it, too.
func TestRoundAgain(t *testing.T) {
	draw := rand.New(rand.NewSource(160))
	for range 3000 {
		p := drawnPacket(draw, 2000).text()
		list, least := []string{p}, 65535
		for range 4 {
			mtu := 68 + draw.Intn(1500)
			least = min(least, mtu)
			list = cutAgain(t, list, mtu)
			mustBeWhole(t, p, least, list)
		}
	}
}

// P15.3: pieces that are cut again by as great an mtu, or a greater one, stay.
func TestRoundAgainStays(t *testing.T) {
	draw := rand.New(rand.NewSource(161))
	for range 2000 {
		p := drawnPacket(draw, 2000).text()
		mtu := 68 + draw.Intn(500)
		for _, piece := range mustCut(t, p, mtu) {
			mustStay(t, "cut again", piece, mtu)
			mustStay(t, "cut again", piece, mtu+1)
		}
	}
}

// P15.3: where the pieces' bytes are a multiple of those that they are cut into again, it is as if they were cut so at once.
func TestRoundAgainAtOnce(t *testing.T) {
	p := plain(4, 3001).text()
	for _, x := range []struct{ first, second int }{{24 + 480, 24 + 48}, {24 + 487, 24 + 8}, {24 + 1600, 24 + 160}, {24 + 16, 24 + 8}} {
		again, once := cutAgain(t, mustCut(t, p, x.first), x.second), mustCut(t, p, x.second)
		if len(again) != len(once) {
			t.Fatalf("%+v: %d pieces, %d at once", x, len(again), len(once))
		}
		for i := range once {
			if again[i] != once[i] {
				t.Errorf("%+v: piece %d is %s, at once %s", x, i, shown(again[i]), shown(once[i]))
			}
		}
	}
}
