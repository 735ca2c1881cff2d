package flow_test

import (
	"math"
	"math/rand"
	"strings"
	"testing"

	"palanquin/api"
	"palanquin/flow"
	"palanquin/ip4"
	"palanquin/ip6"
	"palanquin/tcp"
	"palanquin/udp"
)

// mustBuild4 holds Build4 against the slow one, and tells the packet.
func mustBuild4(t *testing.T, h api.Header4, payload string) string {
	t.Helper()
	p, e := flow.Build4(h, payload)
	if want := slowPut4(h, slowSeal(h.Proto, h.Src, h.Dst, payload)); p != want || e != api.OK {
		t.Fatalf("Build4(%#v, %s): %s, %v; want %s", h, shown(payload), shown(p), e, shown(want))
	}
	return p
}

// mustBuild6 holds Build6 against the slow one, and tells the packet.
func mustBuild6(t *testing.T, h api.Header6, payload string) string {
	t.Helper()
	p, e := flow.Build6(h, payload)
	if want := slowPut6(h, slowSeal(h.Next, h.Src, h.Dst, payload)); p != want || e != api.OK {
		t.Fatalf("Build6(%#v, %s): %s, %v; want %s", h, shown(payload), shown(p), e, shown(want))
	}
	return p
}

func mustNotBuild4(t *testing.T, why string, h api.Header4, payload string, want api.Errno) {
	t.Helper()
	if p, e := flow.Build4(h, payload); p != "" || e != want {
		t.Errorf("%s: Build4(%#v, %d bytes): %s, %v; want %v", why, h, len(payload), shown(p), e, want)
	}
}

func mustNotBuild6(t *testing.T, why string, h api.Header6, payload string, want api.Errno) {
	t.Helper()
	if p, e := flow.Build6(h, payload); p != "" || e != want {
		t.Errorf("%s: Build6(%#v, %d bytes): %s, %v; want %v", why, h, len(payload), shown(p), e, want)
	}
}

// P9.2: packets that are known byte by byte, whatever stood in the sum's place.
func TestBuildKnown(t *testing.T) {
	h := api.Header4{TTL: 64, DF: true, Src: known4[:4], Dst: known4[4:]}
	k := api.Header6{Hops: 64, Src: known6[:16], Dst: known6[16:]}
	for _, n := range []int{0, 0x1234, 65535} {
		for _, x := range []struct {
			proto, sumAt int
			four, six    string
		}{{6, 16, segment4, segment6}, {17, 6, datagram4, datagram6}} {
			h.Proto, k.Next = x.proto, x.proto
			if p, e := flow.Build4(h, withTwo(x.four[20:], x.sumAt, n)); p != x.four || e != api.OK {
				t.Errorf("IPv4, protocol %d, sum %#x: %s, %v", x.proto, n, shown(p), e)
			}
			if p, e := flow.Build6(k, withTwo(x.six[40:], x.sumAt, n)); p != x.six || e != api.OK {
				t.Errorf("IPv6, protocol %d, sum %#x: %s, %v", x.proto, n, shown(p), e)
			}
		}
	}
}

// P9.2: payloads of 0 to 21 bytes and more, by every protocol: sealed, or as they are.
func TestBuildEveryLengthAndProtocol(t *testing.T) {
	draw := rand.New(rand.NewSource(96))
	for proto := range 256 {
		for n := range 30 {
			payload := drawnText(draw, n)
			four, six := mustBuild4(t, plain4(proto), payload), mustBuild6(t, plain6(proto), payload)
			sealed := proto == 6 && n >= 20 || proto == 17 && n >= 8
			if !sealed && (four[24:] != payload || six[40:] != payload) {
				t.Fatalf("protocol %d: %s became %s, %s", proto, shown(payload), shown(four), shown(six))
			}
		}
	}
}

// P9.2: pieces are sealed by their protocol as well, since only what is whole is asked of its sum.
func TestBuildPieces(t *testing.T) {
	for _, k := range kinds() {
		for _, offset := range []int{0, 1, 8191} {
			h := plain4(k.proto)
			h.Offset, h.MF = offset, offset != 1
			p := mustBuild4(t, h, k.plain)
			if p[24:] != slowSeal(k.proto, src4, dst4, k.plain) {
				t.Errorf("%s, offset %d: %s", k.name, offset, shown(p))
			}
			mustRefuse(t, k.name, p, api.ErrFrag)
		}
	}
}

// P9.2: headers of IPv4 that may not be, beside payloads that can be sealed, and such as are too long as well.
func TestBuildHeadersThatMayNotBe4(t *testing.T) {
	for _, turn := range []func(h *api.Header4){
		func(h *api.Header4) { *h = api.Header4{} },
		func(h *api.Header4) { h.TOS = 256 },
		func(h *api.Header4) { h.TTL = -1 },
		func(h *api.Header4) { h.ID = 65536 },
		func(h *api.Header4) { h.Offset = 8192 },
		func(h *api.Header4) { h.Proto += 256 },
		func(h *api.Header4) { h.Proto = math.MinInt },
		func(h *api.Header4) { h.Src = "" },
		func(h *api.Header4) { h.Src = src6 },
		func(h *api.Header4) { h.Src, h.Dst = src6, dst6 },
		func(h *api.Header4) { h.Dst = "\x0a\x01\x02" },
		func(h *api.Header4) { h.Options = "\x01" },
		func(h *api.Header4) { h.Options = strings.Repeat("\x01", 44) },
	} {
		for _, k := range kinds() {
			for _, payload := range []string{k.plain, "", k.plain[:7], strings.Repeat("p", 70000)} {
				h := plain4(k.proto)
				turn(&h)
				mustNotBuild4(t, k.name, h, payload, api.ErrRange)
			}
		}
	}
}

// P9.2: headers of IPv6 that may not be, likewise.
func TestBuildHeadersThatMayNotBe6(t *testing.T) {
	for _, turn := range []func(h *api.Header6){
		func(h *api.Header6) { *h = api.Header6{} },
		func(h *api.Header6) { h.Class = 256 },
		func(h *api.Header6) { h.Label = 1 << 20 },
		func(h *api.Header6) { h.Hops = -1 },
		func(h *api.Header6) { h.Next += 256 },
		func(h *api.Header6) { h.Next = math.MinInt },
		func(h *api.Header6) { h.Src = "" },
		func(h *api.Header6) { h.Src = src4 },
		func(h *api.Header6) { h.Src, h.Dst = src4, dst4 },
		func(h *api.Header6) { h.Dst = dst6[:15] },
	} {
		for _, k := range kinds() {
			for _, payload := range []string{k.plain, "", k.plain[:7], strings.Repeat("p", 70000)} {
				h := plain6(k.proto)
				turn(&h)
				mustNotBuild6(t, k.name, h, payload, api.ErrRange)
			}
		}
	}
}

// P9.2: payloads of as many bytes as fit, and of more.
func TestBuildAtTheGreatestLength(t *testing.T) {
	for _, proto := range []int{6, 17, 1} {
		for options := 0; options <= 40; options += 20 {
			h := plain4(proto)
			h.Options = strings.Repeat("\x01", options)
			fits := api.MaxPacket - 20 - options
			mustBuild4(t, h, strings.Repeat("p", fits))
			for _, more := range []int{1, 2, 65536} {
				mustNotBuild4(t, "too long", h, strings.Repeat("p", fits+more), api.ErrLength)
			}
		}
		mustBuild6(t, plain6(proto), strings.Repeat("p", 65535))
		for _, n := range []int{65536, 65537, 1 << 17} {
			mustNotBuild6(t, "too long", plain6(proto), strings.Repeat("p", n), api.ErrLength)
		}
	}
}

// mustBeBuilt holds that what is built of a segment, or a datagram, is grammar-valid, and of just its flow.
func mustBeBuilt(t *testing.T, h api.Header4, k api.Header6, payload string, src, dst int) {
	t.Helper()
	p, e := flow.Build4(h, payload)
	want := api.Flow{Proto: h.Proto, Src: h.Src, Dst: h.Dst, SrcPort: src, DstPort: dst}
	if f, g := flow.Get(p); f != want || e != api.OK || g != api.OK {
		t.Fatalf("Build4(%#v, %s): %s, %v; Get: %#v, %v", h, shown(payload), shown(p), e, f, g)
	}
	p, e = flow.Build6(k, payload)
	want = api.Flow{Proto: k.Next, Src: k.Src, Dst: k.Dst, SrcPort: src, DstPort: dst}
	if f, g := flow.Get(p); f != want || e != api.OK || g != api.OK {
		t.Fatalf("Build6(%#v, %s): %s, %v; Get: %#v, %v", k, shown(payload), shown(p), e, f, g)
	}
}

// P9.3: each sum that may come out, 0 among them, of a segment and of a datagram.
func TestBuiltOfEverySum(t *testing.T) {
	for _, k := range kinds() {
		sums := map[string]bool{}
		for n := range 65536 {
			b := withTwo(k.plain, 0, n)
			mustBeBuilt(t, plain4(k.proto), plain6(k.proto), b, n, 0x3344)
			sums[flow.Seal(k.proto, src4, dst4, b)[k.sumAt:k.sumAt+2]] = true
		}
		zeros, ones := sums["\x00\x00"], sums["\xff\xff"]
		if len(sums) != 65535 || zeros != (k.name == "TCP") || ones != (k.name == "UDP") {
			t.Errorf("%s: %d sums, with 0000: %v, with FFFF: %v", k.name, len(sums), zeros, ones)
		}
	}
}

// P9.3: payloads of each length up to some, and of as many bytes as fit in both versions.
func TestBuiltOfEveryLength(t *testing.T) {
	lengths := []int{1000, 4095, 65535 - 24 - 24 - 1, 65535 - 24 - 24}
	for n := range 200 {
		lengths = append(lengths, n)
	}
	for _, n := range lengths {
		text := strings.Repeat("\xfe", n)
		s, _ := tcp.Put(api.Segment{Src: 7, Dst: 8, Options: "\x02\x04\x05\xb4", Payload: text}, 9)
		mustBeBuilt(t, plain4(6), plain6(6), s, 7, 8)
		d, _ := udp.Put(api.Datagram{Src: 7, Dst: 8, Payload: text}, 9)
		mustBeBuilt(t, plain4(17), plain6(17), d, 7, 8)
	}
	d, e := udp.Put(api.Datagram{Src: 7, Dst: 8, Payload: strings.Repeat("p", 65527)}, 9)
	if p := mustBuild6(t, plain6(17), d); e != api.OK || mustGet(t, p) != api.OK {
		t.Errorf("the longest datagram: %v", e)
	}
}

// P9.3: drawn headers of what is no piece, with drawn segments and datagrams, whatever sum these came with.
func TestBuiltOfDrawn(t *testing.T) {
	draw := rand.New(rand.NewSource(97))
	for range 10000 {
		h := api.Header4{
			TOS: draw.Intn(256), ID: draw.Intn(65536), TTL: draw.Intn(256), DF: draw.Intn(2) == 1,
			Src: drawnText(draw, 4), Dst: drawnText(draw, 4), Options: drawnText(draw, 4*draw.Intn(11)),
		}
		k := api.Header6{
			Class: draw.Intn(256), Label: draw.Intn(1 << 20), Hops: draw.Intn(256), Src: drawnText(draw, 16), Dst: drawnText(draw, 16),
		}
		src, dst, text := draw.Intn(65536), draw.Intn(65536), drawnText(draw, draw.Intn(50))
		h.Proto, k.Next = 6, 6
		s, _ := tcp.Put(api.Segment{
			Src: src, Dst: dst, Seq: draw.Uint32(), Ack: draw.Uint32(), Flags: draw.Intn(256), Window: draw.Intn(65536),
			Urgent: draw.Intn(65536), Options: strings.Repeat("\x01\x08\x03\xff", draw.Intn(11)), Payload: text,
		}, draw.Intn(65536))
		mustBeBuilt(t, h, k, s, src, dst)
		h.Proto, k.Next = 17, 17
		d, _ := udp.Put(api.Datagram{Src: src, Dst: dst, Payload: text}, draw.Intn(65536))
		mustBeBuilt(t, h, k, d, src, dst)
	}
}

// P9.3: of the payload only the sum is changed; the header is as it was.
func TestBuiltIsGotAsItWas(t *testing.T) {
	for _, k := range kinds() {
		h, back, e := ip4.Get(mustBuild4(t, plain4(k.proto), k.plain))
		if h != plain4(k.proto) || e != api.OK || withTwo(back, k.sumAt, 0) != k.plain {
			t.Errorf("%s, IPv4: %#v, %s, %v", k.name, h, shown(back), e)
		}
		h6, back, e := ip6.Get(mustBuild6(t, plain6(k.proto), k.plain))
		if h6 != plain6(k.proto) || e != api.OK || withTwo(back, k.sumAt, 0) != k.plain {
			t.Errorf("%s, IPv6: %#v, %s, %v", k.name, h6, shown(back), e)
		}
	}
}

// P9.3: what is built of what is no segment, or no datagram, is refused by its layer's error.
func TestBuiltOfOthers(t *testing.T) {
	for _, x := range []struct {
		proto   int
		payload string
		want    api.Errno
	}{
		{6, "", api.ErrShort}, {6, plainSegment[:19], api.ErrShort}, {6, withByte(plainSegment, 12, 0x40), api.ErrLength},
		{6, withByte(plainSegment, 12, 0x61), api.ErrForm}, {6, withByte(plainSegment, 21, 5), api.ErrLength},
		{17, "", api.ErrShort}, {17, plainDatagram[:7], api.ErrShort}, {17, plainDatagram + "z", api.ErrLength}, {17, plainSegment, api.ErrLength},
		{1, plainSegment, api.ErrProto}, {41, plainDatagram, api.ErrProto},
	} {
		mustRefuse(t, "IPv4", mustBuild4(t, plain4(x.proto), x.payload), x.want)
		mustRefuse(t, "IPv6", mustBuild6(t, plain6(x.proto), x.payload), x.want)
	}
}

// P9.2: the same call answers the same, whatever was called between.
func TestBuildTwice(t *testing.T) {
	for _, k := range kinds() {
		four, six := mustBuild4(t, plain4(k.proto), k.plain), mustBuild6(t, plain6(k.proto), k.plain)
		flow.Build4(api.Header4{}, "other")
		flow.Build6(plain6(1), "other")
		flow.Get("other")
		if mustBuild4(t, plain4(k.proto), k.plain) != four || mustBuild6(t, plain6(k.proto), k.plain) != six {
			t.Errorf("%s: another packet", k.name)
		}
	}
}
