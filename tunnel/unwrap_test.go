package tunnel_test

import (
	"math/rand"
	"strings"
	"testing"

	"palanquin/api"
	"palanquin/tunnel"
)

// sealedOuter is p with the right sum of an outer header of 20 bytes.
func sealedOuter(p string) string {
	return withTwo(p, 10, slowSum(withTwo(p, 10, 0)[:20]))
}

// P14.3: packets of both versions and of many lengths, by each Mode, whatever the way.
func TestUnwrapOrdinary(t *testing.T) {
	for _, x := range tunnels() {
		for _, w := range ways() {
			for _, inner := range inners() {
				mustBe(t, right(x, w, inner).text(), x, w, inner)
			}
		}
		for n := 1; n <= len(whole6); n++ {
			for _, inner := range []string{first(n, whole4), first(n, whole6)} {
				mustBe(t, right(x, ways()[0], inner).text(), x, ways()[0], inner)
			}
		}
	}
}

// P14.3: every ID, and every Port, which is told of GUE alone.
func TestUnwrapEveryNumber(t *testing.T) {
	for _, x := range tunnels() {
		for n := range 65536 {
			w := ways()[0]
			w.ID, w.Port = n, n^0x5a5a
			mustBe(t, right(x, w, whole4).text(), x, w, whole4)
		}
	}
}

// P14.3: every TTL and every TOS, with DF and without.
func TestUnwrapEveryTTLAndTOS(t *testing.T) {
	for _, x := range tunnels() {
		for n := range 256 {
			for _, x.DF = range []bool{false, true} {
				x.TTL, x.TOS = n, 255-n
				mustBe(t, right(x, ways()[0], whole6).text(), x, ways()[0], whole6)
			}
		}
	}
}

// P14.3: an outer header with Options, of every length that there is; they aren't told.
func TestUnwrapOptions(t *testing.T) {
	for _, x := range tunnels() {
		for n := 0; n <= 40; n += 4 {
			for _, fill := range []string{"\x01", "\x00", "\x45", "\xff"} {
				for _, inner := range []string{whole4, whole6, "\x45", "\x60"} {
					m := right(x, ways()[0], inner)
					m.options = strings.Repeat(fill, n)
					mustBe(t, m.text(), x, ways()[0], inner)
					m.flags = 0x2000
					mustRefuse(t, "a piece with Options", m.text(), api.ErrFrag)
					m.flags, m.proto = 0, 128
					mustRefuse(t, "a protocol with Options", m.text(), api.ErrProto)
				}
			}
		}
	}
}

// P14.3: wrapped packets cut at every byte, and with a byte more, are layer 5's to refuse.
func TestUnwrapCutAtEveryByte(t *testing.T) {
	for _, x := range tunnels() {
		for _, inner := range []string{whole4, whole6, "\x45", "\x60ab"} {
			p := right(x, ways()[0], inner).text()
			for n := range p {
				if n < 20 {
					mustRefuse(t, "cut", p[:n], api.ErrShort)
				} else {
					mustRefuse(t, "cut", p[:n], api.ErrLength)
				}
			}
			for _, more := range []string{"\x00", "\x45", "\xff", "\x00\x00", strings.Repeat("x", 65536)} {
				mustRefuse(t, "more", p+more, api.ErrLength)
			}
		}
	}
}

// P14.3: what stands behind the outer header, cut at every byte, and with a byte more, in a packet that says so.
func TestUnwrapBehindCutAtEveryByte(t *testing.T) {
	for _, x := range tunnels() {
		for _, inner := range []string{whole4, whole6 + "z"} {
			m := right(x, ways()[0], inner)
			ahead := slowSize(x) - 20
			for m.cut = range ahead + len(inner) {
				switch {
				case m.cut < min(ahead, 8) || x.Mode != api.GUE && m.cut <= ahead && !x.Sum:
					mustRefuse(t, "cut behind", m.text(), api.ErrShort)
				case x.Mode == api.GUE:
					mustRefuse(t, "cut behind", m.text(), api.ErrLength)
				case x.Sum && m.cut < ahead:
					mustRefuse(t, "cut behind", m.text(), api.ErrShort)
				case x.Sum:
					mustRefuse(t, "cut behind", m.text(), api.ErrSum)
				default:
					mustBe(t, m.text(), x, m.w, inner[:m.cut-ahead])
				}
			}
			more := made{t: x, w: m.w, six: m.six, inner: inner, few: 4 + len(inner), cut: all, left: all}
			for _, b := range []string{"\x01", "x", "\xff"} {
				p := more.text()
				p = sealedOuter(withTwo(p, 2, len(p)+1) + b)
				switch {
				case x.Mode == api.GUE:
					mustRefuse(t, "more behind", p, api.ErrLength)
				case x.Sum:
					mustRefuse(t, "more behind", p, api.ErrSum)
				default:
					mustBe(t, p, x, m.w, inner+b)
				}
			}
		}
	}
}

// P14.3: each bit of the outer header alone, with its sum as it was.
func TestUnwrapEachBit(t *testing.T) {
	for _, x := range tunnels() {
		for _, inner := range []string{whole4, whole6} {
			p := right(x, ways()[0], inner).text()
			for n := range 160 {
				q := withByte(p, n/8, p[n/8]^128>>(n%8))
				switch {
				case n < 4:
					mustRefuse(t, "version", q, api.ErrVersion)
				case n == 4 || n == 6: // 13 and 7 words, which the packet may have
					want := api.ErrSum
					if int(q[0]%16)*4 > len(q) {
						want = api.ErrLength
					}
					mustRefuse(t, "words", q, want)
				case n == 5 || n == 7: // 1 and 4 words
					mustRefuse(t, "words", q, api.ErrLength)
				case n/8 == 2 || n/8 == 3:
					mustRefuse(t, "length", q, api.ErrLength)
				default:
					mustRefuse(t, "sum", q, api.ErrSum)
				}
			}
		}
	}
}

// P14.3: each bit of the outer header alone, with a right sum: what is told of it is told otherwise, and all else as it was.
func TestUnwrapEachBitSealed(t *testing.T) {
	for _, x := range tunnels() {
		for _, inner := range []string{whole4, whole6} {
			p := right(x, ways()[0], inner).text()
			for n := 8; n < 160; n++ {
				if n/8 == 10 || n/8 == 11 { // the sum's own
					continue
				}
				q := sealedOuter(withByte(p, n/8, p[n/8]^128>>(n%8)))
				y, w := x, ways()[0]
				want := api.OK
				switch at, bits := n/8, int(128>>(n%8)); {
				case at == 1:
					y.TOS ^= bits
				case at < 4:
					want = api.ErrLength
				case at < 6:
					w.ID ^= bits << (8 * (5 - at))
				case n == 48:
					want = api.ErrForm
				case n == 49:
					y.DF = !y.DF
				case at < 8:
					want = api.ErrFrag
				case at == 8:
					y.TTL ^= bits
				case at == 9:
					want = api.ErrProto
				case x.Mode == api.GUE && x.Sum:
					want = api.ErrSum
				case at < 16:
					w.Src = withByte(w.Src, at-12, w.Src[at-12]^byte(bits))
				default:
					w.Dst = withByte(w.Dst, at-16, w.Dst[at-16]^byte(bits))
				}
				if want == api.OK {
					mustBe(t, q, y, w, inner)
				} else {
					mustRefuse(t, "a bit", q, want)
				}
			}
		}
	}
}

// P14.3: pieces by each Offset, with MF and without, and by MF alone, whatever their protocol and what stands behind.
func TestUnwrapPieces(t *testing.T) {
	for _, x := range tunnels() {
		m := right(x, ways()[0], whole4)
		for n := range 16384 {
			m.flags = n
			if n == 0 {
				mustBe(t, m.text(), x, m.w, whole4)
			} else {
				mustRefuse(t, "a piece", m.text(), api.ErrFrag)
			}
		}
		for m.proto = range 256 {
			for _, m.flags = range []int{1, 0x1fff, 0x2000, 0x3fff} {
				for _, m.cut = range []int{0, 1, all} {
					mustRefuse(t, "a piece", m.text(), api.ErrFrag)
				}
			}
		}
	}
}

// P14.3: every protocol with everything that may stand behind one: 4, 41, 47 and 17 alone are taken, each with its own.
func TestUnwrapEveryProtocol(t *testing.T) {
	for _, x := range tunnels() {
		for _, inner := range []string{whole4, whole6} {
			m := right(x, ways()[0], inner)
			own := []int{m.told(4, 41), 47, 17}[x.Mode-1]
			for proto := range 256 {
				m.proto = own ^ proto
				switch proto {
				case own:
					mustBe(t, m.text(), x, m.w, inner)
				case 4, 41, 47, 17:
					if mustUnwrap(t, m.text()) == api.OK {
						t.Errorf("%+v was taken by the protocol %d", x, proto)
					}
				default:
					mustRefuse(t, "protocol", m.text(), api.ErrProto)
					none := m
					none.cut = 0
					mustRefuse(t, "protocol, nothing behind", none.text(), api.ErrProto)
				}
			}
		}
	}
}

// P14.3: of 4 and 41 every first byte of the packet, and no packet: each takes its own version alone.
func TestUnwrapVersionsOfIPIP(t *testing.T) {
	for _, x := range []api.Tunnel{tunnels()[0], {Mode: api.IPIP}} {
		for _, six := range []bool{false, true} {
			m := right(x, ways()[0], whole4)
			m.six, m.inner = six, ""
			mustRefuse(t, "no packet", m.text(), api.ErrShort)
			for n := range 256 {
				for _, behind := range []string{"", "\x45", "\x60", whole6} {
					m.inner = byteText(n) + behind
					if n/16 == m.told(4, 6) {
						mustBe(t, m.text(), x, m.w, m.inner)
					} else {
						mustRefuse(t, "version", m.text(), api.ErrVersion)
					}
				}
			}
		}
	}
}

// P14.3: of 47 each value of either two bytes of the header, held against the slow one: layer 12's errors are told.
func TestUnwrapHeadersOfGRE(t *testing.T) {
	for _, x := range tunnels() {
		if x.Mode != api.GRE {
			continue
		}
		met := map[api.Errno]int{}
		for n := range 65536 {
			m := right(x, ways()[0], whole4)
			m.front = n
			met[mustUnwrap(t, m.text())]++
			m.front, m.kind = 0, n
			met[mustUnwrap(t, m.text())]++
		}
		for _, e := range []api.Errno{api.OK, api.ErrVersion, api.ErrForm, api.ErrProto} {
			if met[e] == 0 {
				t.Errorf("%+v: error %v wasn't met", x, e)
			}
		}
	}
}

// P14.3: of 17 each value of the header's first two bytes, of the last two, and each port beside 6080: layer 13's errors are told.
func TestUnwrapHeadersOfGUE(t *testing.T) {
	for _, x := range tunnels() {
		if x.Mode != api.GUE {
			continue
		}
		met := map[api.Errno]int{}
		for n := range 65536 {
			m := right(x, ways()[0], whole6)
			m.front, m.kind = n/256, n%256
			met[mustUnwrap(t, m.text())]++
			m.front, m.kind, m.behind = 0, 0, n
			met[mustUnwrap(t, m.text())]++
			m.behind, m.to = 0, n
			met[mustUnwrap(t, m.text())]++
		}
		for _, e := range []api.Errno{api.OK, api.ErrVersion, api.ErrForm, api.ErrProto} {
			if met[e] == 0 {
				t.Errorf("%+v: error %v wasn't met", x, e)
			}
		}
	}
}

// P14.3: a datagram's sum is asked between the outer header's addresses, where it has one.
func TestUnwrapSumOfGUE(t *testing.T) {
	for _, x := range tunnels() {
		if x.Mode != api.GUE {
			continue
		}
		m := right(x, ways()[0], whole4)
		own := number(m.text(), 26)
		for n := range 65536 {
			p := withTwo(m.text(), 26, n)
			switch {
			case n == 0: // whatever the packet, no sum is told
				y := x
				y.Sum = false
				mustBe(t, p, y, m.w, whole4)
			case x.Sum && n == own:
				mustBe(t, p, x, m.w, whole4)
			case x.Sum:
				mustRefuse(t, "sum", p, api.ErrSum)
			default:
				mustUnwrap(t, p)
			}
		}
	}
}

// P14.3: outer headers of every first byte, of packets long and short.
func TestUnwrapEveryFirstByte(t *testing.T) {
	for _, x := range tunnels() {
		for _, inner := range []string{whole4, whole6, "\x45", "\x60"} {
			for n := range 256 {
				m := right(x, ways()[0], inner)
				m.first = n
				mustUnwrap(t, m.text())
				mustUnwrap(t, sealedOuter(m.text()))
			}
		}
	}
}

// P14.3: client packets that aren't wrapped, nothing, and few bytes.
func TestUnwrapWhatIsNotWrapped(t *testing.T) {
	mustRefuse(t, "a datagram to another port", whole4, api.ErrProto)
	mustRefuse(t, "a packet of IPv6", whole6, api.ErrVersion)
	for n := range 20 {
		mustRefuse(t, "few", strings.Repeat("\x45", n), api.ErrShort)
		mustRefuse(t, "few", whole4[:n], api.ErrShort)
		mustRefuse(t, "few", strings.Repeat("\x00", n), api.ErrShort)
	}
}

// P14.3: drawn bytes, and wrapped packets with some bytes changed, sealed again or not.
func TestUnwrapDrawn(t *testing.T) {
	draw := rand.New(rand.NewSource(142))
	met := map[api.Errno]int{}
	for range 100000 {
		met[mustUnwrap(t, drawnBytes(draw))]++
	}
	for _, e := range []api.Errno{api.OK, api.ErrShort, api.ErrVersion, api.ErrLength, api.ErrSum, api.ErrForm, api.ErrFrag, api.ErrProto} {
		if met[e] < 500 {
			t.Errorf("error %v was met %d times", e, met[e])
		}
	}
}

func drawnBytes(draw *rand.Rand) string {
	m := right(drawnTunnel(draw), drawnWay(draw), drawnInner(draw, 60))
	if draw.Intn(4) == 0 {
		m.options = drawnText(draw, 4*draw.Intn(11))
	}
	if draw.Intn(4) == 0 {
		m.cut = draw.Intn(20)
	}
	p := m.text()
	if draw.Intn(4) == 0 {
		p = p[:draw.Intn(len(p))]
	}
	ahead := len(m.options)
	for range draw.Intn(3) {
		if at := draw.Intn(36); at < len(p) {
			p = withByte(p, at, byte(draw.Intn(256)))
		}
	}
	if len(p) >= 20+ahead && draw.Intn(4) > 0 {
		p = withTwo(p, 10, slowSum(withTwo(p, 10, 0)[:20+ahead]))
	}
	if draw.Intn(20) == 0 {
		p = drawnText(draw, draw.Intn(40))
	}
	return p
}

// P14.3: the same call answers the same, whatever was called between.
func TestUnwrapTwice(t *testing.T) {
	for _, x := range tunnels() {
		p := right(x, ways()[0], whole6).text()
		for range 3 {
			mustBe(t, p, x, ways()[0], whole6)
			mustRefuse(t, "between", p[:19], api.ErrShort)
			mustRefuse(t, "between", sealedOuter(withByte(p, 9, 0)), api.ErrProto)
			for _, y := range tunnels() {
				tunnel.Wrap(y, ways()[1], whole4)
			}
		}
	}
}
