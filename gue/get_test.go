package gue_test

import (
	"math/rand"
	"strings"
	"testing"

	"palanquin/api"
	"palanquin/gue"
)

// P13.2: packets of both versions and of many lengths, with and without a sum, between addresses of 4 and of 16 bytes.
func TestGetOrdinary(t *testing.T) {
	for _, x := range pairs() {
		for _, h := range heads() {
			for _, inner := range inners() {
				mustBe(t, x, slowPut(h, x, inner), h, inner)
			}
			for n := 1; n <= len(whole6); n++ {
				for _, inner := range []string{whole4[:min(n, len(whole4))], whole6[:n]} {
					mustBe(t, x, slowPut(h, x, inner), h, inner)
				}
			}
		}
	}
}

// P13.2: every port that it may come from.
func TestGetEveryPort(t *testing.T) {
	for _, x := range pairs()[:2] {
		for port := range 65536 {
			for _, with := range []bool{false, true} {
				h := gue.Head{Port: port, Sum: with}
				mustBe(t, x, slowPut(h, x, whole4), h, whole4)
			}
		}
	}
}

// P13.2: each port that it goes to beside 6080, whatever the sum and the payload.
func TestGetEachPortBeside(t *testing.T) {
	for _, x := range pairs()[:2] {
		for _, h := range heads() {
			for to := range 65536 {
				m := right(h, x, whole6)
				m.to = to
				wrong := m
				wrong.wrong = 1
				short := m
				short.cut = 3
				if to == 6080 {
					mustBe(t, x, m.text(), h, whole6)
					continue
				}
				mustRefuse(t, "port", x, m.text(), api.ErrProto)
				mustRefuse(t, "port, and sum", x, wrong.text(), api.ErrProto)
				mustRefuse(t, "port, and short", x, short.text(), api.ErrProto)
			}
		}
	}
}

// P13.2: fewer than 8 bytes are too few, whatever they say.
func TestGetFewerThanEight(t *testing.T) {
	for _, x := range pairs() {
		for n := range 8 {
			for _, b := range []string{slowPut(heads()[0], x, whole4), slowPut(heads()[1], x, whole6), "\x00\x00\x17\xc0\x00" + byteText(n) + "\x00\x00", strings.Repeat("\xff", 8)} {
				mustRefuse(t, "few", x, b[:n], api.ErrShort)
			}
		}
	}
}

// P13.2: datagrams cut at every byte, and with a byte more, don't have as many as they say.
func TestGetCutAtEveryByte(t *testing.T) {
	for _, x := range pairs() {
		for _, h := range heads() {
			for _, inner := range []string{whole4, whole6, "\x45"} {
				b := slowPut(h, x, inner)
				for n := 8; n < len(b); n++ {
					mustRefuse(t, "cut", x, b[:n], api.ErrLength)
					mustRefuse(t, "cut, the sum right", x, withSum(b[:n], slowSeal(x, b[:n])), api.ErrLength)
				}
				for _, more := range []string{"\x00", "\x45", "\xff", "\x00\x00"} {
					mustRefuse(t, "a byte more", x, b+more, api.ErrLength)
					mustRefuse(t, "a byte more, the sum right", x, withSum(b+more, slowSeal(x, b+more)), api.ErrLength)
				}
			}
		}
	}
}

// P13.2: every number of bytes that it may say to have, with a right sum or none.
func TestGetEveryLengthSaid(t *testing.T) {
	x := pairs()[0]
	for _, h := range heads() {
		for off := range 65536 {
			m := right(h, x, whole4)
			m.off = off
			if off == 0 {
				mustBe(t, x, m.text(), h, whole4)
			} else {
				mustRefuse(t, "length", x, m.text(), api.ErrLength)
			}
		}
	}
}

// P13.2: more bytes than a datagram may have, though what they say is as many by its lowest two bytes.
func TestGetTooLong(t *testing.T) {
	x := pairs()[0]
	for _, h := range heads() {
		for _, n := range []int{65536, 65537, 131072, 1 << 18} {
			m := right(h, x, "\x45"+strings.Repeat("x", n-13))
			mustRefuse(t, "too long", x, m.text(), api.ErrLength)
		}
	}
}

// P13.2: payloads of fewer than 4 bytes are too short, whatever they say; one of 4 has no packet.
func TestGetShortPayload(t *testing.T) {
	for _, x := range pairs() {
		for _, h := range heads() {
			for n := range 5 {
				for _, payload := range []string{"\x00\x04\x00\x00", "\x00\x29\x00\x00", "\x00\x00\x00\x00", "\x40\x04\x00\x00", "\x3f\xff\xff\xff", "\xff\xff\xff\xff", "\x45\x60\x45\x60"} {
					m := made{h: h, x: x, to: 6080, header: payload, cut: n}
					b := m.text()
					m.wrong = 9
					if h.Sum {
						mustRefuse(t, "short, and sum", x, m.text(), api.ErrSum)
					}
					if n < 4 {
						mustRefuse(t, "short", x, b, api.ErrShort)
					} else {
						mustGet(t, x, b)
					}
				}
			}
			mustRefuse(t, "no packet", x, made{h: h, x: x, to: 6080, header: "\x00\x04\x00\x00", cut: 4}.text(), api.ErrShort)
			mustRefuse(t, "no packet", x, made{h: h, x: x, to: 6080, header: "\x00\x29\x00\x00", cut: 4}.text(), api.ErrShort)
		}
	}
}

// P13.2: datagrams that are cut, and say so, with a right sum or none: what is left of the packet is got.
func TestGetShortened(t *testing.T) {
	for _, x := range pairs() {
		for _, h := range heads() {
			for _, inner := range []string{whole4, whole6} {
				m := right(h, x, inner)
				for m.cut = range 4 + len(inner) {
					if m.cut < 5 {
						mustRefuse(t, "shortened", x, m.text(), api.ErrShort)
					} else {
						mustBe(t, x, m.text(), h, inner[:m.cut-4])
					}
				}
			}
		}
	}
}

// P13.2: each bit of the header's four bytes alone.
func TestGetEachBit(t *testing.T) {
	for bit := range 32 {
		want := api.ErrForm
		switch bit / 8 {
		case 0:
			if bit < 2 { // the highest two of the first byte
				want = api.ErrVersion
			}
		case 1:
			want = api.ErrProto
		}
		for _, x := range pairs() {
			for _, h := range heads() {
				alone := made{h: h, x: x, to: 6080, header: "\x00\x00\x00\x00", inner: whole4, cut: 1 << 10}
				alone.header = withBit(alone.header, bit)
				// Bit 13 alone is the protocol 4.
				if bit == 13 {
					mustBe(t, x, alone.text(), h, whole4)
				} else {
					mustRefuse(t, "bit alone", x, alone.text(), want)
				}
				for _, inner := range []string{whole4, whole6} {
					turned := right(h, x, inner)
					turned.header = withBit(turned.header, bit)
					mustRefuse(t, "bit turned", x, turned.text(), want)
				}
			}
		}
	}
}

// withBit is b with a bit turned, of which those of the first byte are counted first, the highest ahead.
func withBit(b string, bit int) string {
	return withByte(b, bit/8, b[bit/8]^128>>(bit%8))
}

// P13.2: every first byte, beside last two bytes that are 0 and such that aren't.
func TestGetEveryFirstByte(t *testing.T) {
	for _, x := range pairs() {
		for _, h := range heads() {
			for first := range 256 {
				for _, behind := range []string{"\x00\x00", "\x00\x01", "\x80\x00", "\xff\xff"} {
					for _, proto := range []string{"\x04", "\x29", "\x00", "\xff"} {
						m := right(h, x, whole4)
						m.header = byteText(first) + proto + behind
						switch {
						case first >= 64:
							mustRefuse(t, "version", x, m.text(), api.ErrVersion)
						case first != 0 || behind != "\x00\x00":
							mustRefuse(t, "bits", x, m.text(), api.ErrForm)
						default:
							mustGet(t, x, m.text())
						}
					}
				}
			}
		}
	}
}

// P13.2: all values of the last two bytes.
func TestGetEveryLastTwoBytes(t *testing.T) {
	x := pairs()[0]
	for _, h := range heads() {
		for n := range 65536 {
			m := right(h, x, whole6)
			m.header = m.header[:2] + two(n)
			if n == 0 {
				mustBe(t, x, m.text(), h, whole6)
			} else {
				mustRefuse(t, "last two bytes", x, m.text(), api.ErrForm)
			}
		}
	}
}

// P13.2: every second byte, with a packet of either version, of neither, and with none: 4 and 41 alone are taken, each with its own.
func TestGetEverySecondByte(t *testing.T) {
	for _, x := range pairs() {
		for _, h := range heads() {
			for proto := range 256 {
				of := func(inner string) string {
					return made{h: h, x: x, to: 6080, header: "\x00" + byteText(proto) + "\x00\x00", inner: inner, cut: 1 << 10}.text()
				}
				switch proto {
				case 4:
					mustBe(t, x, of(whole4), h, whole4)
					mustRefuse(t, "other version", x, of(whole6), api.ErrVersion)
				case 41:
					mustBe(t, x, of(whole6), h, whole6)
					mustRefuse(t, "other version", x, of(whole4), api.ErrVersion)
				}
				for _, inner := range []string{"\x50", "\x04", "\x29", "\xff" + whole4} {
					mustRefuse(t, "neither version", x, of(inner), unlessKnown(proto, api.ErrVersion))
				}
				mustRefuse(t, "no packet", x, of(""), unlessKnown(proto, api.ErrShort))
				if unlessKnown(proto, api.OK) == api.ErrProto {
					mustRefuse(t, "protocol", x, of(whole4), api.ErrProto)
					mustRefuse(t, "protocol", x, of(whole6), api.ErrProto)
				}
			}
		}
	}
}

// unlessKnown is the error of a second byte: that of its packet, if it is 4 or 41.
func unlessKnown(proto int, e api.Errno) api.Errno {
	if proto == 4 || proto == 41 {
		return e
	}
	return api.ErrProto
}

// P13.2: every first byte of the packet.
func TestGetEveryPacket(t *testing.T) {
	for _, x := range pairs() {
		for _, h := range heads() {
			for first := range 256 {
				for _, behind := range []string{"", "\x45", "\x60", whole4[1:]} {
					inner := byteText(first) + behind
					four := made{h: h, x: x, to: 6080, header: "\x00\x04\x00\x00", inner: inner, cut: 1 << 10}
					six := four
					six.header = "\x00\x29\x00\x00"
					wantFour, wantSix := api.ErrVersion, api.ErrVersion
					switch first / 16 {
					case 4:
						wantFour = api.OK
					case 6:
						wantSix = api.OK
					}
					if e4, e6 := mustGet(t, x, four.text()), mustGet(t, x, six.text()); e4 != wantFour || e6 != wantSix {
						t.Errorf("%s: %v, %v; want %v, %v", shown(inner), e4, e6, wantFour, wantSix)
					}
				}
			}
		}
	}
}

// P13.2: drawn bytes, and datagrams that are put, with some bytes changed, sealed again or not.
func TestGetDrawn(t *testing.T) {
	draw := rand.New(rand.NewSource(133))
	met := map[api.Errno]int{}
	for range 60000 {
		x := drawnPair(draw)
		met[mustGet(t, x, drawnBytes(draw, x))]++
	}
	for _, e := range []api.Errno{api.OK, api.ErrShort, api.ErrLength, api.ErrProto, api.ErrSum, api.ErrVersion, api.ErrForm} {
		if met[e] < 500 {
			t.Errorf("error %v was met %d times", e, met[e])
		}
	}
}

func drawnBytes(draw *rand.Rand, x pair) string {
	b := slowPut(drawnHead(draw), x, drawnInner(draw, 60))
	for range draw.Intn(3) {
		b = withByte(b, draw.Intn(min(len(b), 16)), byte(draw.Intn(256)))
	}
	if draw.Intn(3) == 0 {
		b = b[:draw.Intn(len(b)+1)]
	}
	if len(b) >= 8 && draw.Intn(3) > 0 {
		b = sealed(x, b)
	}
	if draw.Intn(12) == 0 {
		b = drawnText(draw, draw.Intn(20))
	}
	return b
}

// P13.2: the same call answers the same, whatever was called between.
func TestGetTwice(t *testing.T) {
	for _, x := range pairs() {
		for _, h := range heads() {
			b := slowPut(h, x, whole6)
			for range 3 {
				mustBe(t, x, b, h, whole6)
				mustRefuse(t, "between", x, b[:7], api.ErrShort)
				mustRefuse(t, "between", x, withByte(b, 3, 1), api.ErrProto)
				gue.Put(gue.Head{Sum: true}, x.dst, x.src, whole4)
			}
		}
	}
}
