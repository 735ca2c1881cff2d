package tunnel_test

import (
	"math/rand"
	"testing"

	"palanquin/api"
)

// fault is a way in which a wrapped packet is wrong.
type fault struct {
	name string
	e    api.Errno
	put  func(m *made, draw *rand.Rand)
}

// faultsOf tells the faults that a packet wrapped by a tunnel may have, the first asked first.
func faultsOf(x api.Tunnel) []fault {
	faults := []fault{
		{"fewer than 20", api.ErrShort, func(m *made, draw *rand.Rand) { m.left = draw.Intn(20) }},
		{"outer version", api.ErrVersion, func(m *made, draw *rand.Rand) { m.first ^= 16 * (1 + draw.Intn(15)) }},
		{"words", api.ErrLength, func(m *made, draw *rand.Rand) { m.first ^= 5 ^ draw.Intn(5) }},
		{"outer length", api.ErrLength, func(m *made, draw *rand.Rand) { m.off = 1 + draw.Intn(65535) }},
		{"outer sum", api.ErrSum, func(m *made, draw *rand.Rand) { m.wrong = 1 << draw.Intn(16) }},
		{"highest flag", api.ErrForm, func(m *made, draw *rand.Rand) { m.flags |= 32768 }},
		{"Offset", api.ErrFrag, func(m *made, draw *rand.Rand) { m.flags |= 1 + draw.Intn(8191) }},
		{"MF", api.ErrFrag, func(m *made, draw *rand.Rand) { m.flags |= 8192 }},
		{"outer protocol", api.ErrProto, func(m *made, draw *rand.Rand) { m.proto = 1 << draw.Intn(8) }},
	}
	switch x.Mode {
	case api.GRE:
		faults = append(faults, faultsOfGRE(x)...)
	case api.GUE:
		faults = append(faults, faultsOfGUE(x)...)
	}
	return append(faults, []fault{
		{"no packet", api.ErrShort, func(m *made, draw *rand.Rand) { m.inner = "" }},
		{"neither version", api.ErrVersion, func(m *made, draw *rand.Rand) { m.inner = "\x50" + m.inner }},
		{"other version", api.ErrVersion, func(m *made, draw *rand.Rand) { m.six = !m.six }},
	}...)
}

func faultsOfGRE(x api.Tunnel) []fault {
	faults := []fault{
		{"fewer than 4", api.ErrShort, func(m *made, draw *rand.Rand) { m.cut = draw.Intn(4) }},
		{"version", api.ErrVersion, func(m *made, draw *rand.Rand) { m.front |= 1 + draw.Intn(7) }},
		{"bits beside", api.ErrForm, func(m *made, draw *rand.Rand) { m.front |= 8 << draw.Intn(10) }},
	}
	if x.Sum || x.Key {
		faults = append(faults, fault{"header cut", api.ErrShort, func(m *made, draw *rand.Rand) {
			m.cut = 4 + draw.Intn(slowSize(m.t)-24)
		}})
	}
	if x.Sum {
		faults = append(faults, []fault{
			{"behind the sum", api.ErrForm, func(m *made, draw *rand.Rand) { m.behind = 1 << draw.Intn(16) }},
			{"sum", api.ErrSum, func(m *made, draw *rand.Rand) { m.own = 1 << draw.Intn(16) }},
		}...)
	}
	return append(faults, fault{"kind", api.ErrProto, func(m *made, draw *rand.Rand) { m.kind = 1 << draw.Intn(16) }})
}

func faultsOfGUE(x api.Tunnel) []fault {
	faults := []fault{
		{"fewer than 8", api.ErrShort, func(m *made, draw *rand.Rand) { m.cut = draw.Intn(8) }},
		{"length", api.ErrLength, func(m *made, draw *rand.Rand) { m.more = 1 + draw.Intn(65535) }},
		{"port", api.ErrProto, func(m *made, draw *rand.Rand) { m.to = 1 + draw.Intn(65535) }},
	}
	if x.Sum {
		faults = append(faults, fault{"sum", api.ErrSum, func(m *made, draw *rand.Rand) { m.own = 1 << draw.Intn(16) }})
	}
	return append(faults, []fault{
		{"fewer than 4", api.ErrShort, func(m *made, draw *rand.Rand) { m.few = draw.Intn(4) }},
		{"version", api.ErrVersion, func(m *made, draw *rand.Rand) { m.front |= 64 * (1 + draw.Intn(3)) }},
		{"bits beside", api.ErrForm, func(m *made, draw *rand.Rand) { m.front |= 1 + draw.Intn(63) }},
		{"last two bytes", api.ErrForm, func(m *made, draw *rand.Rand) { m.behind = 1 << draw.Intn(16) }},
		{"protocol", api.ErrProto, func(m *made, draw *rand.Rand) { m.kind = 1 << draw.Intn(8) }},
	}...)
}

// mustTell puts the faults that are chosen, and says that the first of them is told.
func mustTell(t *testing.T, x api.Tunnel, inner string, faults []fault, chosen int, draw *rand.Rand) {
	t.Helper()
	m := right(x, ways()[0], inner)
	want, names := api.OK, ""
	// The last that is put is the first that is asked, since it may hide what was put before.
	for i := len(faults) - 1; i >= 0; i-- {
		if chosen>>i&1 == 1 {
			faults[i].put(&m, draw)
			want, names = faults[i].e, names+", "+faults[i].name
		}
	}
	if e := mustUnwrap(t, m.text()); e != want {
		t.Fatalf("%+v, faults%s: Unwrap(%s): %v, want %v", x, names, shown(m.text()), e, want)
	}
}

// P14.3: each fault alone, by its error, with zero values beside it.
func TestUnwrapOneFault(t *testing.T) {
	draw := rand.New(rand.NewSource(143))
	for _, x := range tunnels() {
		for _, fault := range faultsOf(x) {
			for n := range 100 {
				m := right(x, ways()[0], []string{whole4, whole6}[n%2])
				fault.put(&m, draw)
				mustRefuse(t, fault.name, m.text(), fault.e)
			}
		}
	}
}

// P14.3: each fault beside every later one: the first is told.
func TestUnwrapTwoFaults(t *testing.T) {
	draw := rand.New(rand.NewSource(144))
	for _, x := range tunnels() {
		faults := faultsOf(x)
		for one := range faults {
			for other := range one {
				for range 10 {
					mustTell(t, x, whole4, faults, 1<<one|1<<other, draw)
					mustTell(t, x, whole6, faults, 1<<one|1<<other, draw)
				}
			}
		}
	}
}

// P14.3: drawn sets of faults: the first is told.
func TestUnwrapSeveralFaults(t *testing.T) {
	draw := rand.New(rand.NewSource(145))
	for _, x := range tunnels() {
		faults := faultsOf(x)
		for range 4000 {
			// Those that are asked first are left out more and more, so that later ones are met, too.
			chosen := draw.Intn(1<<len(faults)) >> draw.Intn(len(faults)) << draw.Intn(len(faults)) % (1 << len(faults))
			mustTell(t, x, []string{whole4, whole6}[draw.Intn(2)], faults, chosen, draw)
		}
	}
}
