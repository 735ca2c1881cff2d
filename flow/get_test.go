package flow_test

import (
	"strings"
	"testing"

	"palanquin/api"
	"palanquin/flow"
)

// Packets that are known byte by byte.
const (
	known4    = "\xc0\xa8\x00\x01\xc0\xa8\x00\xc7"
	known6    = "\x20\x01\x0d\xb8\x00\x00\x00\x00\x00\x00\x00\x00\x00\x00\x00\x01\x20\x01\x0d\xb8\x00\x00\x00\x00\x00\x00\x00\x00\x00\x00\x00\x02"
	segment4  = "\x45\x00\x00\x28\x00\x00\x40\x00\x40\x06\xb8\xb7" + known4 + "\x9c\x40\x01\xbb\x00\x00\x00\x01\x00\x00\x00\x00\x50\x02\xfa\xf0\x94\xdc\x00\x00"
	segment6  = "\x60\x00\x00\x00\x00\x14\x06\x40" + known6 + "\x9c\x40\x01\xbb\x00\x00\x00\x01\x00\x00\x00\x00\x50\x02\xfa\xf0\xbb\x80\x00\x00"
	datagram4 = "\x45\x00\x00\x1f\x00\x00\x40\x00\x40\x11\xb8\xb5" + known4 + "\x9c\x40\x00\x35\x00\x0b\x1c\xe7abc"
	datagram6 = "\x60\x00\x00\x00\x00\x0b\x11\x40" + known6 + "\x9c\x40\x00\x35\x00\x0b\x43\x8babc"
)

// P9.1: ordinary packets of both versions and both protocols.
func TestGetOrdinary(t *testing.T) {
	mustBe(t, "TCP, IPv4", segment4, api.Flow{Proto: 6, Src: known4[:4], Dst: known4[4:], SrcPort: 40000, DstPort: 443})
	mustBe(t, "UDP, IPv4", datagram4, api.Flow{Proto: 17, Src: known4[:4], Dst: known4[4:], SrcPort: 40000, DstPort: 53})
	mustBe(t, "TCP, IPv6", segment6, api.Flow{Proto: 6, Src: known6[:16], Dst: known6[16:], SrcPort: 40000, DstPort: 443})
	mustBe(t, "UDP, IPv6", datagram6, api.Flow{Proto: 17, Src: known6[:16], Dst: known6[16:], SrcPort: 40000, DstPort: 53})
	eachKind(t, func(t *testing.T, v version, k kind, whole string) {
		mustBe(t, "plain", whole, plainFlow(v, k))
	})
}

// P9.1: the chapter's example.
func TestGetExample(t *testing.T) {
	mustBe(t, "IPv4", withTwo(datagram4, 26, 0), api.Flow{Proto: 17, Src: known4[:4], Dst: known4[4:], SrcPort: 40000, DstPort: 53})
	mustRefuse(t, "IPv6", withTwo(datagram6, 46, 0), api.ErrSum)
}

// P9.1: each port at each of its values, and no byte of an address lost.
func TestGetEveryPort(t *testing.T) {
	eachKind(t, func(t *testing.T, v version, k kind, _ string) {
		for n := range 65536 {
			b := slowSeal(k.proto, v.src, v.dst, withTwo(withTwo(k.plain, 0, n), 2, n^0x5aa5))
			want := plainFlow(v, k)
			want.SrcPort, want.DstPort = n, n^0x5aa5
			if f, e := flow.Get(v.put(k.proto, b)); f != want || e != api.OK {
				t.Fatalf("ports %d, %d: %#v, %v", n, n^0x5aa5, f, e)
			}
		}
	})
}

// P9.1: the empty text has no bits to be asked for.
func TestGetNothing(t *testing.T) {
	mustRefuse(t, "nothing", "", api.ErrShort)
}

// P9.1: every first byte, alone, with few behind it, and with what would be a whole packet of either version.
func TestGetEveryFirstByte(t *testing.T) {
	for first := range 256 {
		want := api.ErrVersion
		if first/16 == 4 || first/16 == 6 {
			want = api.ErrShort
		}
		for n := range 19 {
			mustRefuse(t, "few bytes", string([]byte{byte(first)})+strings.Repeat("\x45", n), want)
		}
	}
	eachKind(t, func(t *testing.T, _ version, _ kind, whole string) {
		for first := range 256 {
			p := withByte(whole, 0, byte(first))
			mustGet(t, p)
			if first/16 != 4 && first/16 != 6 {
				mustRefuse(t, "another version", p, api.ErrVersion)
			}
		}
	})
}

// P9.1: a packet that is cut, or has a byte more, by its own layer's errors.
func TestGetEveryLength(t *testing.T) {
	eachKind(t, func(t *testing.T, v version, _ kind, whole string) {
		for n := 1; n < len(whole); n++ {
			want := api.ErrLength
			if n < v.least {
				want = api.ErrShort
			}
			mustRefuse(t, "cut", whole[:n], want)
		}
		mustRefuse(t, "a byte more", whole+"\x00", api.ErrLength)
		mustRefuse(t, "twice", whole+whole, api.ErrLength)
	})
}

// P9.1: pieces by Offset alone, by MF alone, and by both, whatever they carry; DF makes no piece.
func TestGetPieces(t *testing.T) {
	for _, k := range kinds() {
		whole := slowSeal(k.proto, src4, dst4, k.plain)
		for _, payload := range []string{whole, k.plain, whole[:5], ""} {
			for _, proto := range []int{k.proto, 1} {
				for offset := range 8192 {
					for flags := range 4 {
						h := plain4(proto)
						h.Offset, h.MF, h.DF = offset, flags&1 == 1, flags&2 == 2
						if p := slowPut4(h, payload); offset != 0 || h.MF {
							mustRefuse(t, "piece", p, api.ErrFrag)
						} else if e := mustGet(t, p); e == api.ErrFrag {
							t.Errorf("%s: no piece, but refused as one", shown(p))
						}
					}
				}
			}
		}
	}
}

// P9.1: every protocol, with what would be a segment, and a datagram, of its own.
func TestGetEveryProtocol(t *testing.T) {
	eachKind(t, func(t *testing.T, v version, k kind, whole string) {
		for proto := range 256 {
			b := withTwo(k.plain, k.sumAt, slowSum(slowAhead(v.src, v.dst, proto, len(k.plain))+k.plain))
			switch p := v.put(proto, b); proto {
			case k.proto:
				mustBe(t, "its own", p, plainFlow(v, k))
			case 6, 17:
				mustGet(t, p)
			default:
				mustRefuse(t, "other", p, api.ErrProto)
				mustRefuse(t, "other, no payload", v.put(proto, ""), api.ErrProto)
			}
		}
	})
}

// P9.1: payloads too short to be a segment, or a datagram, with a right sum where they have one.
func TestGetShortPayload(t *testing.T) {
	eachKind(t, func(t *testing.T, v version, k kind, _ string) {
		for n := range k.least {
			for _, fill := range []string{"\x00", "\x50", "\xff"} {
				b := strings.Repeat(fill, n)
				mustRefuse(t, "short", v.put(k.proto, b), api.ErrShort)
				if n >= k.sumAt+2 {
					b = withTwo(b, k.sumAt, 0)
					b = withTwo(b, k.sumAt, slowSum(slowAhead(v.src, v.dst, k.proto, n)+b))
					mustRefuse(t, "short, right sum", v.put(k.proto, b), api.ErrShort)
				}
			}
		}
	})
}

// P9.1: what is no segment, for each of layer 7's errors, with the right sum.
func TestGetNoSegment(t *testing.T) {
	for _, v := range versions() {
		refuse := func(why, b string, want api.Errno) {
			t.Helper()
			mustRefuse(t, v.name+": "+why, v.put(6, slowSeal(6, v.src, v.dst, b)), want)
		}
		for words := range 16 {
			if words < 5 || words*4 > len(plainSegment) {
				refuse("words", withByte(plainSegment, 12, byte(words*16)), api.ErrLength)
			}
		}
		for beside := 1; beside < 16; beside++ {
			refuse("the four bits beside", withByte(plainSegment, 12, byte(0x60+beside)), api.ErrForm)
		}
		for _, size := range []byte{0, 1, 5, 255} {
			refuse("an option's length", withByte(plainSegment, 21, size), api.ErrLength)
		}
	}
}

// P9.1: what is no datagram, by the length that it says, with the right sum and with none.
func TestGetNoDatagram(t *testing.T) {
	for _, v := range versions() {
		for said := range 300 {
			if said == len(plainDatagram) {
				continue
			}
			b := withTwo(plainDatagram, 4, said)
			mustRefuse(t, "no sum", v.put(17, b), api.ErrLength)
			mustRefuse(t, "right sum", v.put(17, slowSeal(17, v.src, v.dst, b)), api.ErrLength)
		}
	}
}

// P9.1: the same call answers the same, whatever was called between.
func TestGetTwice(t *testing.T) {
	eachKind(t, func(t *testing.T, v version, k kind, whole string) {
		for range 3 {
			mustBe(t, "again", whole, plainFlow(v, k))
			mustRefuse(t, "between", whole+"x", api.ErrLength)
			mustRefuse(t, "between", "", api.ErrShort)
			mustBe(t, "between", datagram6, api.Flow{Proto: 17, Src: known6[:16], Dst: known6[16:], SrcPort: 40000, DstPort: 53})
		}
	})
}
