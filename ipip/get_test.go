package ipip_test

import (
	"math"
	"math/rand"
	"testing"

	"palanquin/api"
	"palanquin/ipip"
)

// P11.2: ordinary packets of both versions, every beginning of them, and more behind.
func TestGetPackets(t *testing.T) {
	for n := 1; n <= len(whole4); n++ {
		mustGive(t, 4, whole4[:n])
	}
	for n := 1; n <= len(whole6); n++ {
		mustGive(t, 41, whole6[:n])
	}
	for _, behind := range behinds() {
		mustGive(t, 4, whole4+behind)
		mustGive(t, 41, whole6+behind)
	}
}

// P11.2: every first byte, whatever stands behind it.
func TestGetEveryFirstByte(t *testing.T) {
	for first := range 256 {
		four, six := first/16 == 4, first/16 == 6
		for _, behind := range behinds() {
			payload := byteText(first) + behind
			for _, x := range []struct {
				proto int
				ok    bool
			}{{4, four}, {41, six}} {
				if x.ok {
					mustGive(t, x.proto, payload)
				} else {
					mustNotGive(t, x.proto, payload, api.ErrVersion)
				}
			}
			mustNotGive(t, 17, payload, api.ErrProto)
		}
	}
}

// P11.2: each fault of the payload alone.
func TestGetFaults(t *testing.T) {
	for _, x := range []struct {
		why     string
		proto   int
		payload string
		want    api.Errno
	}{
		{"empty", 4, "", api.ErrShort},
		{"empty", 41, "", api.ErrShort},
		{"neither version", 4, "\x50" + whole4[1:], api.ErrVersion},
		{"neither version", 41, "\x70" + whole6[1:], api.ErrVersion},
		{"neither version", 4, "\x00", api.ErrVersion},
		{"neither version", 41, "\xff", api.ErrVersion},
		{"the version in the last four bits", 4, "\x04" + whole4[1:], api.ErrVersion},
		{"the version in the last four bits", 41, "\x06" + whole6[1:], api.ErrVersion},
		{"the protocol as the first byte", 41, "\x29" + whole6[1:], api.ErrVersion},
		{"the other version", 4, whole6, api.ErrVersion},
		{"the other version", 41, whole4, api.ErrVersion},
		{"the other version", 4, "\x60", api.ErrVersion},
		{"the other version", 41, "\x45", api.ErrVersion},
	} {
		if s, e := ipip.Get(x.proto, x.payload); s != "" || e != x.want {
			t.Errorf("%s: Get(%d, %s): %s, %v; want nothing, %v", x.why, x.proto, shown(x.payload), shown(s), e, x.want)
		}
	}
}

// P11.2: a protocol that is neither is told first, beside whatever payload.
func TestGetOtherProtos(t *testing.T) {
	payloads := []string{"", whole4, whole6, "\x45", "\x60", "\x50", "\x00", "\x04", "\x29", "\xff"}
	for _, proto := range otherProtos() {
		for _, payload := range payloads {
			mustNotGive(t, proto, payload, api.ErrProto)
		}
	}
	for _, proto := range []int{0, 6, 17, 40, 42, -1, math.MinInt, math.MaxInt} {
		for first := range 256 {
			mustNotGive(t, proto, byteText(first), api.ErrProto)
		}
	}
}

// P11.2: every number of some bits, with each kind of payload.
func TestGetEveryProto(t *testing.T) {
	met := map[api.Errno]int{}
	for proto := -70000; proto <= 70000; proto++ {
		for _, payload := range []string{"", whole4, whole6, "\x50"} {
			met[mustGet(t, proto, payload)]++
		}
	}
	if met[api.OK] != 2 || met[api.ErrShort] != 2 || met[api.ErrVersion] != 4 || met[api.ErrProto] != 4*(140001-2) {
		t.Errorf("met: %v", met)
	}
}

// P11.2: drawn protocols and payloads.
func TestGetDrawn(t *testing.T) {
	draw := rand.New(rand.NewSource(112))
	met := map[api.Errno]int{}
	others := otherProtos()
	for range 50000 {
		proto := []int{4, 41, others[draw.Intn(len(others))]}[draw.Intn(3)]
		payload := drawnText(draw, draw.Intn(90))
		if draw.Intn(2) == 0 {
			payload = byteText(64+32*draw.Intn(2)+draw.Intn(16)) + payload
		}
		met[mustGet(t, proto, payload)]++
	}
	for _, e := range []api.Errno{api.OK, api.ErrShort, api.ErrVersion, api.ErrProto} {
		if met[e] < 100 {
			t.Errorf("error %v was met %d times", e, met[e])
		}
	}
}

// P11.1, P11.2: what is put is got as it was, by the protocol that is told, and by no other one.
func TestGetWhatIsPut(t *testing.T) {
	draw := rand.New(rand.NewSource(113))
	inners := []string{whole4, whole6, "\x45", "\x60", "\x4f", "\x6f"}
	for _, behind := range behinds() {
		inners = append(inners, "\x46"+behind, "\x6a"+behind)
	}
	for range 2000 {
		inners = append(inners, byteText(64+32*draw.Intn(2)+draw.Intn(16))+drawnText(draw, draw.Intn(1500)))
	}
	others := otherProtos()
	for _, inner := range inners {
		proto, payload, e := ipip.Put(inner)
		if e != api.OK {
			t.Fatalf("Put(%s): %v", shown(inner), e)
		}
		if s, e := ipip.Get(proto, payload); s != inner || e != api.OK {
			t.Errorf("Get(%d, Put(%s)): %s, %v", proto, shown(inner), shown(s), e)
		}
		mustNotGive(t, 4+41-proto, payload, api.ErrVersion)
		for _, other := range others {
			mustNotGive(t, other, payload, api.ErrProto)
		}
	}
}

// P11.1, P11.2: a packet in a packet is put and got like any other: only the outer one's first bits are asked.
func TestGetNested(t *testing.T) {
	mustGive(t, 4, whole4[:20]+whole6)
	mustGive(t, 41, whole6[:40]+whole4)
	mustNotGive(t, 41, whole4[:20]+whole6, api.ErrVersion)
	mustNotGive(t, 4, whole6[:40]+whole4, api.ErrVersion)
	mustBe(t, whole4[:20]+whole6, 4, 0x0800)
	mustBe(t, whole6[:40]+whole4, 41, 0x86dd)
}

// P11.2: the same call answers the same, whatever was called between.
func TestGetTwice(t *testing.T) {
	for range 3 {
		mustGive(t, 4, whole4)
		mustGive(t, 41, whole6)
		mustNotGive(t, 4, whole6, api.ErrVersion)
		mustNotGive(t, 4, "", api.ErrShort)
		mustNotGive(t, 0, "", api.ErrProto)
		ipip.Put(whole6)
		ipip.Kind(whole4)
	}
}
