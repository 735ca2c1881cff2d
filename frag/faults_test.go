package frag_test

import (
	"math/rand"
	"testing"

	"palanquin/api"
)

// asked is what Cut is asked: a packet, right or wrong, and an mtu.
type asked struct {
	made
	mtu int
}

// right is what is cut into three pieces.
func right() asked { return asked{plain(40, 100), 100} }

// fault is a way in which what is asked is wrong.
type fault struct {
	name string
	e    api.Errno
	put  func(x *asked, draw *rand.Rand)
}

// faults are all, the first asked first.
func faults() []fault {
	return []fault{
		{"fewer than 20", api.ErrShort, func(x *asked, draw *rand.Rand) { x.left = draw.Intn(20) }},
		{"version", api.ErrVersion, func(x *asked, draw *rand.Rand) { x.first ^= 16 * (1 + draw.Intn(15)) }},
		{"words", api.ErrLength, func(x *asked, draw *rand.Rand) { x.first ^= 15 ^ draw.Intn(5) }},
		{"header cut", api.ErrLength, func(x *asked, draw *rand.Rand) { x.left = 20 + draw.Intn(40) }},
		{"length", api.ErrLength, func(x *asked, draw *rand.Rand) { x.off = 1 + draw.Intn(65535) }},
		{"cut", api.ErrLength, func(x *asked, draw *rand.Rand) { x.left = 60 + draw.Intn(100) }},
		{"sum", api.ErrSum, func(x *asked, draw *rand.Rand) { x.wrong = 1 << draw.Intn(16) }},
		{"highest flag", api.ErrForm, func(x *asked, draw *rand.Rand) { x.flags |= 32768 }},
		{"small mtu", api.ErrRange, func(x *asked, draw *rand.Rand) { x.mtu = draw.Intn(28) }},
		{"mtu below 0", api.ErrRange, func(x *asked, draw *rand.Rand) { x.mtu = -1 - draw.Intn(1<<draw.Intn(40)) }},
		{"great mtu", api.ErrRange, func(x *asked, draw *rand.Rand) { x.mtu = 65536 + draw.Intn(1<<draw.Intn(40)) }},
		{"DF", api.ErrBig, func(x *asked, draw *rand.Rand) { x.df = true }},
		{"no room", api.ErrRange, func(x *asked, draw *rand.Rand) { x.mtu = 28 + draw.Intn(40) }},
		{"Offset", api.ErrLength, func(x *asked, draw *rand.Rand) { x.offset = 8182 + draw.Intn(10) }},
	}
}

// mustTell puts the faults that are chosen, and says that the first of them is told.
func mustTell(t *testing.T, chosen int, draw *rand.Rand) {
	t.Helper()
	x, want, names := right(), api.OK, ""
	list := faults()
	// The last that is put is the first that is asked, since it may hide what was put before.
	for i := len(list) - 1; i >= 0; i-- {
		if chosen>>i&1 == 1 {
			list[i].put(&x, draw)
			want, names = list[i].e, names+", "+list[i].name
		}
	}
	if _, e := mustAnswer(t, x.text(), x.mtu); e != want {
		t.Fatalf("faults%s: Cut(%s, %d): %v, want %v", names, shown(x.text()), x.mtu, e, want)
	}
}

// P15.2: without a fault, three pieces.
func TestFaultsNone(t *testing.T) {
	mustHave(t, right().text(), right().mtu, 40, 40, 20)
}

// P15.2: each fault alone, by its error, with no pieces beside it.
func TestFaultsOne(t *testing.T) {
	draw := rand.New(rand.NewSource(154))
	for _, fault := range faults() {
		for range 300 {
			x := right()
			fault.put(&x, draw)
			mustRefuse(t, fault.name, x.text(), x.mtu, fault.e)
		}
	}
}

// P15.2: each fault beside every later one: the first is told.
func TestFaultsTwo(t *testing.T) {
	draw := rand.New(rand.NewSource(155))
	for first := range faults() {
		for second := range first {
			for range 100 {
				mustTell(t, 1<<first|1<<second, draw)
			}
		}
	}
}

// P15.2: drawn sets of faults: the first is told.
func TestFaultsSeveral(t *testing.T) {
	draw := rand.New(rand.NewSource(156))
	for range 40000 {
		// Those that are asked first are left out more and more, so that later ones are met, too.
		n := len(faults())
		mustTell(t, draw.Intn(1<<n)>>draw.Intn(n)<<draw.Intn(n)%(1<<n), draw)
	}
}

// P15.2: layer 5's faults are told of a packet that would fit as well, and by an mtu that isn't one.
func TestFaultsOfShortPackets(t *testing.T) {
	p := plain(0, 10).text()
	for _, mtu := range []int{-1, 0, 27, 28, 30, 1500, 65535, 65536} {
		for n := range p {
			want := api.ErrLength
			if n < 20 {
				want = api.ErrShort
			}
			mustRefuse(t, "a beginning", p[:n], mtu, want)
		}
		mustRefuse(t, "no packet", "", mtu, api.ErrShort)
		mustRefuse(t, "a byte more", p+"x", mtu, api.ErrLength)
		mustRefuse(t, "another version", "\x65"+p[1:], mtu, api.ErrVersion)
		mustRefuse(t, "another sum", p[:10]+"\x00\x01"+p[12:], mtu, api.ErrSum)
		m := plain(0, 10)
		m.flags = 32768
		mustRefuse(t, "highest flag", m.text(), mtu, api.ErrForm)
	}
}

// P15.2: whatever single bit of a header is another, and so is no longer what the sum is of.
func TestFaultsEveryBit(t *testing.T) {
	p := plain(40, 100).text()
	for at := range p[:60] {
		for b := range 8 {
			q := p[:at] + byteText(int(p[at])^1<<b) + p[at+1:]
			if list, e := mustAnswer(t, q, 100); e == api.OK {
				t.Errorf("byte %d, bit %d: %d pieces", at, b, len(list))
			}
		}
	}
}

// P15.2: drawn texts, which are hardly ever packets, by drawn mtus.
func TestFaultsDrawnTexts(t *testing.T) {
	draw := rand.New(rand.NewSource(157))
	for range 50000 {
		mustAnswer(t, drawnText(draw, draw.Intn(100)), draw.Intn(200)-50)
	}
	for range 20000 {
		p := []byte(drawnPacket(draw, 200).text())
		for range 1 + draw.Intn(3) {
			p[draw.Intn(min(len(p), 60))] ^= 1 << draw.Intn(8)
		}
		mustAnswer(t, string(p), 28+draw.Intn(200))
	}
}
