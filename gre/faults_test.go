package gre_test

import (
	"math/rand"
	"testing"

	"palanquin/api"
	"palanquin/gre"
)

// broken is a text that is made, and cut behind so many bytes.
type broken struct {
	made
	length int
}

func (x broken) text() string {
	b := x.made.text()
	return b[:min(len(b), x.length)]
}

// fault is a way in which a text is wrong.
type fault struct {
	name string
	e    api.Errno
	put  func(x *broken, draw *rand.Rand)
}

// faultsOf tells the faults that a text of such a header may have, the first asked first.
func faultsOf(h gre.Head) []fault {
	faults := []fault{
		{"fewer than 4", api.ErrShort, func(x *broken, draw *rand.Rand) { x.length = draw.Intn(4) }},
		{"version", api.ErrVersion, func(x *broken, draw *rand.Rand) { x.turned |= 1 + draw.Intn(7) }},
		{"bit beside", api.ErrForm, func(x *broken, draw *rand.Rand) { x.turned |= otherBits()[draw.Intn(11)] }},
	}
	if h.Sum || h.Key {
		faults = append(faults, fault{"header cut", api.ErrShort, func(x *broken, draw *rand.Rand) {
			x.length = 4 + draw.Intn(slowSize(x.h)-4)
		}})
	}
	if h.Sum {
		faults = append(faults, []fault{
			{"behind the sum", api.ErrForm, func(x *broken, draw *rand.Rand) { x.behind = 1 << draw.Intn(16) }},
			{"sum", api.ErrSum, func(x *broken, draw *rand.Rand) { x.wrong = 1 << draw.Intn(16) }},
		}...)
	}
	return append(faults, []fault{
		{"kind", api.ErrProto, func(x *broken, draw *rand.Rand) { x.kind ^= 1 << draw.Intn(16) }},
		{"no packet", api.ErrShort, func(x *broken, draw *rand.Rand) { x.inner = "" }},
		{"neither version", api.ErrVersion, func(x *broken, draw *rand.Rand) { x.inner = "\x50" + x.inner }},
		{"other version", api.ErrVersion, func(x *broken, draw *rand.Rand) { x.inner = otherThan(x.inner) }},
	}...)
}

// otherBits are those of the first two bytes that are neither the version's nor C nor K.
func otherBits() []int {
	bits := []int{1 << 14}
	for bit := 3; bit < 13; bit++ {
		bits = append(bits, 1<<bit)
	}
	return bits
}

// otherThan is a packet of the other version.
func otherThan(inner string) string {
	if inner == whole4 {
		return whole6
	}
	return whole4
}

// P12.2: each fault alone, each beside every later one, and each set of them: the first that is asked is told.
func TestGetSeveralFaults(t *testing.T) {
	draw := rand.New(rand.NewSource(125))
	for _, h := range heads() {
		faults := faultsOf(h)
		for _, inner := range []string{whole4, whole6} {
			for chosen := range 1 << len(faults) {
				for range 4 {
					x := broken{made: made{h: h, kind: kindOf(inner), inner: inner}, length: 1 << 10}
					want, names := api.OK, ""
					// The last that is put is the first that is asked, since it may hide what was put before.
					for i := len(faults) - 1; i >= 0; i-- {
						if chosen>>i&1 == 1 {
							faults[i].put(&x, draw)
							want, names = faults[i].e, names+", "+faults[i].name
						}
					}
					if e := mustGet(t, x.text()); e != want {
						t.Fatalf("%s, faults%s: Get(%s): %v, want %v", told(h), names, shown(x.text()), e, want)
					}
				}
			}
		}
	}
}

// P12.2: each fault alone, by the kind of its error.
func TestGetOneFault(t *testing.T) {
	draw := rand.New(rand.NewSource(126))
	for _, h := range heads() {
		for _, fault := range faultsOf(h) {
			for range 200 {
				x := broken{made: made{h: h, kind: 0x86dd, inner: whole6}, length: 1 << 10}
				fault.put(&x, draw)
				mustRefuse(t, fault.name, x.text(), fault.e)
			}
		}
	}
}
