package flow_test

import (
	"math/rand"
	"testing"

	"palanquin/api"
)

// fault is a way in which a packet is wrong.
type fault struct {
	name string
	e    api.Errno
	turn func(p string) string
}

// payloadFaults tells the faults of the payload, the last asked first.
func payloadFaults(v version, k kind) []fault {
	inPayload := func(turn func(b string) string) func(p string) string {
		return func(p string) string { return v.mend(p[:v.head] + turn(p[v.head:])) }
	}
	if k.name == "TCP" {
		return []fault{
			{"sum", api.ErrSum, inPayload(func(b string) string { return withByte(b, 7, b[7]^1) })},
			{"options", api.ErrLength, inPayload(func(b string) string { return withByte(b, 21, 5) })},
			{"bits beside", api.ErrForm, inPayload(func(b string) string { return withByte(b, 12, b[12]|1) })},
			{"many words", api.ErrLength, inPayload(func(b string) string { return withByte(b, 12, b[12]|0xf0) })},
			{"few words", api.ErrLength, inPayload(func(b string) string { return withByte(b, 12, b[12]&15|0x40) })},
			{"short segment", api.ErrShort, inPayload(func(b string) string { return b[:19] })},
		}
	}
	faults := []fault{
		{"sum", api.ErrSum, inPayload(func(b string) string { return withByte(b, 9, b[9]^1) })},
		{"says more", api.ErrLength, inPayload(func(b string) string { return withTwo(b, 4, len(b)+1) })},
		{"says fewer", api.ErrLength, inPayload(func(b string) string { return withTwo(b, 4, len(b)-1) })},
		{"short datagram", api.ErrShort, inPayload(func(b string) string { return b[:7] })},
	}
	if v.name == "IPv6" {
		none := fault{"no sum", api.ErrSum, inPayload(func(b string) string { return withTwo(b, 6, 0) })}
		faults = append([]fault{none}, faults...)
	}
	return faults
}

// packetFaults tells the faults of the packet, the last asked first.
func packetFaults(v version) []fault {
	faults := []fault{{"protocol", api.ErrProto, func(p string) string { return v.mend(withByte(p, v.protoAt, 1)) }}}
	if v.name == "IPv4" {
		faults = append(faults, []fault{
			{"MF", api.ErrFrag, func(p string) string { return v.mend(withByte(p, 6, p[6]|0x20)) }},
			{"Offset", api.ErrFrag, func(p string) string { return v.mend(withByte(p, 7, 1)) }},
			{"highest flag", api.ErrForm, func(p string) string { return v.mend(withByte(p, 6, p[6]|0x80)) }},
			{"header's sum", api.ErrSum, func(p string) string { return withByte(p, 8, p[8]^1) }},
		}...)
	}
	return append(faults, []fault{
		{"a byte more", api.ErrLength, func(p string) string { return p + "z" }},
		{"short packet", api.ErrShort, func(p string) string { return p[:v.least-1] }},
		{"version", api.ErrVersion, func(p string) string { return withByte(p, 0, p[0]&15|0x50) }},
		{"nothing", api.ErrShort, func(string) string { return "" }},
	}...)
}

// P9.1: each fault alone, each beside every one that is asked later, and each set of them: the first that is asked is told.
func TestGetSeveralFaults(t *testing.T) {
	eachKind(t, func(t *testing.T, v version, k kind, whole string) {
		faults := append(payloadFaults(v, k), packetFaults(v)...)
		for chosen := range 1 << len(faults) {
			p, want, names := whole, api.OK, ""
			for i, fault := range faults {
				// The last that is made is the first that is asked.
				if chosen>>i&1 == 1 {
					p, want, names = fault.turn(p), fault.e, names+", "+fault.name
				}
			}
			if e := mustGet(t, p); e != want {
				t.Fatalf("faults%s: %v, want %v", names, e, want)
			}
		}
	})
}

// P9.1: drawn packets, most of them wrong in one way or another, held against the slow questions.
func TestGetDrawn(t *testing.T) {
	draw := rand.New(rand.NewSource(91))
	eachKind(t, func(t *testing.T, v version, k kind, whole string) {
		met := map[api.Errno]int{}
		for range 30000 {
			met[mustGet(t, drawnPacket(draw, v, k, whole))]++
		}
		errors := []api.Errno{api.OK, api.ErrShort, api.ErrVersion, api.ErrLength, api.ErrSum, api.ErrProto}
		if v.name == "IPv4" {
			errors = append(errors, api.ErrForm, api.ErrFrag)
		}
		for _, e := range errors {
			if met[e] < 50 {
				t.Errorf("error %v was met %d times", e, met[e])
			}
		}
	})
}

// drawnPacket is a whole one with some bytes changed, cut, lengthened, mended and sealed again, or not.
func drawnPacket(draw *rand.Rand, v version, k kind, whole string) string {
	p := whole
	for range draw.Intn(3) {
		p = withByte(p, draw.Intn(v.head+24)%len(p), byte(draw.Intn(256)))
	}
	if draw.Intn(4) == 0 {
		p = p[:v.head+draw.Intn(len(p)-v.head+1)]
	}
	if draw.Intn(2) == 0 {
		p = p[:v.head] + slowSeal(k.proto, v.src, v.dst, p[v.head:])
	}
	if draw.Intn(4) > 0 {
		p = v.mend(p)
	}
	switch draw.Intn(12) {
	case 0:
		p = p[:draw.Intn(len(p)+1)]
	case 1:
		p += drawnText(draw, draw.Intn(9))
	case 2:
		p = drawnText(draw, draw.Intn(90))
	}
	return p
}
