package vtwo_test

import (
	"math/rand"
	"testing"

	"palanquin/api"
)

// broken is a header that is put together with faults, and cut behind so many bytes.
type broken struct {
	front
	sign          string
	ahead, behind string // fields ahead of the seal, and behind it
	seal          bool
	wrong         byte // bits of the number that are turned, once it is right
	stray         string
	short         int // of what follows no more is there, nor told to follow
	length        int
}

// whole has no fault.
func whole(x front, seal bool) broken {
	return broken{front: x, sign: sign, ahead: field(1, "a"), behind: field(4, "") + field(2, "host"), seal: seal, short: 1 << 16, length: 1 << 16}
}

// uncut is the header as it would be if it were all there.
func (x broken) uncut() string {
	block := x.endpoints + x.ahead
	at := 16 + len(block) + 3
	if x.seal {
		block += field(3, "zero")
	}
	block += x.behind + x.stray
	b := x.sign + header(x.bits, x.code, block[:min(len(block), x.short)])[12:]
	if x.seal && at+4 <= len(b) {
		b = sealedAt(b, at)
		b = withByte(b, at+3, b[at+3]^x.wrong)
	}
	return b
}

func (x broken) text() string {
	b := x.uncut()
	return b[:min(len(b), x.length)]
}

// fault is a way in which a header is wrong.
type fault struct {
	name  string
	e     api.Errno
	place int // of the byte by which it is told, where it is told of a header that isn't all there, or 0
	put   func(x *broken, draw *rand.Rand)
}

// notFamilies are 14th bytes that are none's.
func notFamilies() []byte { return []byte{0x01, 0x02, 0x10, 0x13, 0x20, 0x23, 0x31, 0x32, 0xff} }

// faultsOfFront are told as soon as their byte is there, the first asked first.
func faultsOfFront() []fault {
	faults := []fault{}
	for at := range sign {
		faults = append(faults, fault{"sign", api.ErrSign, at, func(x *broken, draw *rand.Rand) {
			x.sign = withByte(x.sign, at, sign[at]^byte(1+draw.Intn(255)))
		}})
	}
	return append(faults, []fault{
		{"version", api.ErrVersion, 12, func(x *broken, draw *rand.Rand) { x.bits ^= byte(1+draw.Intn(15)) << 4 }},
		{"command", api.ErrForm, 12, func(x *broken, draw *rand.Rand) { x.bits = x.bits&^15 | byte(2+draw.Intn(14)) }},
		{"family", api.ErrProto, 13, func(x *broken, draw *rand.Rand) { x.code = notFamilies()[draw.Intn(9)] }},
	}...)
}

// faultsOfBlock tells the faults of what follows, the first asked first.
func faultsOfBlock(x front, seal bool) []fault {
	faults := []fault{
		{"not all there", api.ErrMore, 0, func(x *broken, draw *rand.Rand) { x.length = 14 + draw.Intn(len(x.uncut())-14) }},
	}
	if n := len(x.endpoints); n > 0 {
		faults = append(faults, fault{"few addresses", api.ErrLength, 0, func(x *broken, draw *rand.Rand) { x.short = draw.Intn(n) }})
	}
	faults = append(faults, []fault{
		{"behind the end", api.ErrLength, 0, func(x *broken, draw *rand.Rand) {
			x.stray = []string{"\x01", "\x03", "\x03\x00", "\x00\x00\x01", "\x03\x00\x04abc", "\x09\xff\xffabc"}[draw.Intn(6)]
		}},
		{"a seal's length", api.ErrLength, 0, func(x *broken, draw *rand.Rand) {
			x.put(draw, field(3, []string{"", "a", "abc", "abcde", "abcdefgh"}[draw.Intn(5)]))
		}},
		{"two seals", api.ErrTwice, 0, func(x *broken, draw *rand.Rand) {
			if !x.seal {
				x.put(draw, field(3, drawnText(draw, 4)))
			}
			x.put(draw, field(3, drawnText(draw, 4)))
		}},
	}...)
	if seal {
		faults = append(faults, fault{"sum", api.ErrSum, 0, func(x *broken, draw *rand.Rand) { x.wrong = byte(1 + draw.Intn(255)) }})
	}
	return faults
}

// put lays a field somewhere among the others.
func (x *broken) put(draw *rand.Rand, f string) {
	switch draw.Intn(4) {
	case 0:
		x.ahead = f + x.ahead
	case 1:
		x.ahead += f
	case 2:
		x.behind = f + x.behind
	case 3:
		x.behind += f
	}
}

// drawnFront is all faults that may be told of what stands ahead of what follows, but of the sign's bytes one.
func drawnFront(draw *rand.Rand) []fault {
	faults := faultsOfFront()
	return append([]fault{faults[draw.Intn(12)]}, faults[12:]...)
}

// P18.2: each fault alone, each beside every later one, and each set of them: the first that is asked is told.
func TestGetSeveralFaults(t *testing.T) {
	draw := rand.New(rand.NewSource(184))
	for _, front := range fronts() {
		for _, seal := range []bool{false, true} {
			faults := append(drawnFront(draw), faultsOfBlock(front, seal)...)
			for chosen := range 1 << len(faults) {
				faults[0] = drawnFront(draw)[0]
				x := whole(front, seal)
				want, names := api.OK, ""
				// The last that is put is the first that is asked, since it may hide what was put before.
				for i := len(faults) - 1; i >= 0; i-- {
					if chosen>>i&1 == 1 {
						faults[i].put(&x, draw)
						want, names = faults[i].e, names+", "+faults[i].name
					}
				}
				if e := mustGet(t, x.text()); e != want {
					t.Fatalf("faults%s: Get(%s): %v, want %v", names, shown(x.text()), e, want)
				}
				// What stands behind changes nothing, as long as no more is asked for.
				if e := mustGet(t, x.text()+"x"); e != want && want != api.ErrMore {
					t.Fatalf("faults%s, and more: Get(%s): %v, want %v", names, shown(x.text()), e, want)
				}
			}
		}
	}
}

// P18.2: each fault alone, by the kind of its error, with no header, no true and no number of bytes beside it.
func TestGetOneFault(t *testing.T) {
	draw := rand.New(rand.NewSource(185))
	for _, front := range fronts() {
		for _, seal := range []bool{false, true} {
			for _, fault := range append(faultsOfFront(), faultsOfBlock(front, seal)...) {
				for range 40 {
					x := whole(front, seal)
					fault.put(&x, draw)
					mustRefuse(t, fault.name, x.text(), fault.e)
				}
			}
		}
	}
}

// P18.2: in a text that is cut short, wherever, that fault is told whose byte is there, and no other; else more is asked for.
func TestGetFaultsInACutText(t *testing.T) {
	draw := rand.New(rand.NewSource(186))
	for _, front := range fronts() {
		for _, seal := range []bool{false, true} {
			ofFront, ofBlock := drawnFront(draw), faultsOfBlock(front, seal)[1:]
			for chosen := range 1 << (len(ofFront) + len(ofBlock)) {
				ofFront[0] = drawnFront(draw)[0]
				faults := append(ofFront[:len(ofFront):len(ofFront)], ofBlock...)
				x := whole(front, seal)
				for i := len(faults) - 1; i >= 0; i-- {
					if chosen>>i&1 == 1 {
						faults[i].put(&x, draw)
					}
				}
				b := x.uncut()
				for size := range b {
					want := api.ErrMore
					for i := len(ofFront) - 1; i >= 0; i-- {
						if chosen>>i&1 == 1 && ofFront[i].place < size {
							want = ofFront[i].e
						}
					}
					mustRefuse(t, "cut", b[:size], want)
				}
			}
		}
	}
}

// P18.2: drawn bytes, and headers that are put, with some bytes changed, sealed again or not.
func TestGetDrawn(t *testing.T) {
	draw := rand.New(rand.NewSource(187))
	met := map[api.Errno]int{}
	for range 100000 {
		met[mustGet(t, drawnBytes(draw))]++
	}
	for _, e := range []api.Errno{api.OK, api.ErrSign, api.ErrVersion, api.ErrForm, api.ErrProto, api.ErrMore, api.ErrLength, api.ErrTwice, api.ErrSum} {
		if met[e] < 300 {
			t.Errorf("error %v was met %d times", e, met[e])
		}
	}
	if len(met) != 9 {
		t.Errorf("met: %v", met)
	}
}

func drawnBytes(draw *rand.Rand) string {
	s := drawnHeader(draw)
	for i := range s.Fields {
		if draw.Intn(8) == 0 {
			s.Fields[i] = api.Field{Type: 3, Text: drawnText(draw, []int{4, 4, 4, 4, 0, 3, 5}[draw.Intn(7)])}
		}
	}
	b := slowPut(s, draw.Intn(2) == 0)
	for range draw.Intn(3) {
		at := draw.Intn(len(b))
		switch draw.Intn(4) {
		case 0:
			b = withByte(b, at, byte(draw.Intn(256))>>draw.Intn(8))
		case 1:
			b = withByte(b, at, b[at]^1<<draw.Intn(8))
		case 2, 3:
			at = 12 + at%4
			b = withByte(b, at, b[at]^1<<draw.Intn(8))
		}
	}
	switch draw.Intn(6) {
	case 0:
		b = b[:draw.Intn(len(b)+1)]
	case 1:
		b += drawnText(draw, draw.Intn(100))
	case 2:
		b = sealedAt(b, len(b)-4)
	}
	return b
}
