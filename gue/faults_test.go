package gue_test

import (
	"math/rand"
	"testing"

	"palanquin/api"
	"palanquin/gue"
)

// broken is a datagram that is made, and cut behind so many bytes.
type broken struct {
	made
	length int
}

func (x broken) text() string {
	b := x.made.text()
	return b[:min(len(b), x.length)]
}

// fault is a way in which a datagram is wrong.
type fault struct {
	name string
	e    api.Errno
	put  func(x *broken, draw *rand.Rand)
}

// faultsOf tells the faults that a datagram of such a head may have, the first asked first.
func faultsOf(h gue.Head) []fault {
	faults := []fault{
		{"fewer than 8", api.ErrShort, func(x *broken, draw *rand.Rand) { x.length = draw.Intn(8) }},
		{"length", api.ErrLength, func(x *broken, draw *rand.Rand) { x.off = 1 + draw.Intn(65535) }},
		{"port", api.ErrProto, func(x *broken, draw *rand.Rand) { x.to ^= 1 + draw.Intn(65535) }},
	}
	if h.Sum {
		faults = append(faults, fault{"sum", api.ErrSum, func(x *broken, draw *rand.Rand) { x.wrong = 1 + draw.Intn(65534) }})
	}
	return append(faults, []fault{
		{"fewer than 4", api.ErrShort, func(x *broken, draw *rand.Rand) { x.cut = draw.Intn(4) }},
		{"version", api.ErrVersion, func(x *broken, draw *rand.Rand) { x.turn(0, 64*(1+draw.Intn(3))) }},
		{"bits beside", api.ErrForm, func(x *broken, draw *rand.Rand) { x.turn(0, 1+draw.Intn(63)) }},
		{"last byte but one", api.ErrForm, func(x *broken, draw *rand.Rand) { x.turn(2, 1+draw.Intn(255)) }},
		{"last byte", api.ErrForm, func(x *broken, draw *rand.Rand) { x.turn(3, 1+draw.Intn(255)) }},
		{"protocol", api.ErrProto, func(x *broken, draw *rand.Rand) { x.turn(1, 1<<draw.Intn(8)) }},
		{"no packet", api.ErrShort, func(x *broken, draw *rand.Rand) { x.inner = "" }},
		{"neither version", api.ErrVersion, func(x *broken, draw *rand.Rand) { x.inner = "\x50" + x.inner }},
		{"other version", api.ErrVersion, func(x *broken, draw *rand.Rand) { x.inner = otherThan(x.inner) }},
	}...)
}

func (x *broken) turn(at, bits int) { x.header = withByte(x.header, at, x.header[at]^byte(bits)) }

// otherThan is a packet of the other version.
func otherThan(inner string) string {
	if inner == whole4 {
		return whole6
	}
	return whole4
}

func whole(h gue.Head, x pair, inner string) broken {
	return broken{made: right(h, x, inner), length: 1 << 10}
}

// P13.2: each fault alone, each beside every later one, and each set of them: the first that is asked is told.
func TestGetSeveralFaults(t *testing.T) {
	draw := rand.New(rand.NewSource(135))
	for _, h := range heads() {
		faults := faultsOf(h)
		for _, inner := range []string{whole4, whole6} {
			for chosen := range 1 << len(faults) {
				for _, x := range pairs() {
					b := whole(h, x, inner)
					want, names := api.OK, ""
					// The last that is put is the first that is asked, since it may hide what was put before.
					for i := len(faults) - 1; i >= 0; i-- {
						if chosen>>i&1 == 1 {
							faults[i].put(&b, draw)
							want, names = faults[i].e, names+", "+faults[i].name
						}
					}
					if e := mustGet(t, x, b.text()); e != want {
						t.Fatalf("%s, faults%s: Get(%s, %s): %v, want %v", told(h), names, between(x), shown(b.text()), e, want)
					}
				}
			}
		}
	}
}

// P13.2: each fault alone, by the kind of its error, with zero values beside it.
func TestGetOneFault(t *testing.T) {
	draw := rand.New(rand.NewSource(136))
	for _, h := range heads() {
		for _, fault := range faultsOf(h) {
			for n := range 400 {
				x := pairs()[n%2]
				b := whole(h, x, []string{whole4, whole6}[n/2%2])
				fault.put(&b, draw)
				mustRefuse(t, fault.name, x, b.text(), fault.e)
			}
		}
	}
}
