package tunnel_test

import (
	"math/rand"
	"strings"
	"testing"

	"palanquin/api"
	"palanquin/tunnel"
)

// example is a wrapped packet, byte by byte.
type example struct {
	t        api.Tunnel
	id, port int
	ahead    string // of the packet
	inner    string
}

// examples go from 192.0.2.1 to 198.51.100.9.
func examples() []example {
	const way = "\xc0\x00\x02\x01\xc6\x33\x64\x09"
	return []example{
		{api.Tunnel{Mode: 1, TTL: 64}, 0, 7, "\x45\x00\x00\x33\x00\x00\x00\x00\x40\x04\x8e\x89" + way, whole4},
		{api.Tunnel{Mode: 1, TTL: 255, TOS: 0xb8, DF: true}, 0x1234, 0, "\x45\xb8\x00\x50\x12\x34\x40\x00\xff\x29\x7c\x5a" + way, whole6},
		{api.Tunnel{Mode: 2, TTL: 3, TOS: 1, DF: true}, 2, 65535, "\x45\x01\x00\x37\x00\x02\x40\x00\x03\x2f\x8b\x57" + way + "\x00\x00\x08\x00", whole4},
		{api.Tunnel{Mode: 2, TOS: 255, Sum: true}, 65535, 1, "\x45\xff\x00\x58\xff\xff\x00\x00\x00\x2f\xcd\x3a" + way + "\x80\x00\x86\xdd\x92\xe7\x00\x00", whole6},
		{api.Tunnel{Mode: 2, TTL: 1, Key: true, Value: 0x12345678}, 1, 0, "\x45\x00\x00\x3b\x00\x01\x00\x00\x01\x2f\xcd\x55" + way + "\x20\x00\x08\x00\x12\x34\x56\x78", whole4},
		{api.Tunnel{Mode: 2, TTL: 1, Key: true}, 1, 0, "\x45\x00\x00\x58\x00\x01\x00\x00\x01\x2f\xcd\x38" + way + "\x20\x00\x86\xdd\x00\x00\x00\x00", whole6},
		{api.Tunnel{Mode: 2, TTL: 17, TOS: 4, DF: true, Sum: true, Key: true, Value: 0x9abcdef0}, 0xabcd, 0,
			"\x45\x04\x00\x3f\xab\xcd\x40\x00\x11\x2f\xd1\x80" + way + "\xa0\x00\x08\x00\xf2\x70\x00\x00\x9a\xbc\xde\xf0", whole4},
		{api.Tunnel{Mode: 3, TTL: 128, TOS: 8, DF: true}, 0x100, 0xc001,
			"\x45\x08\x00\x3f\x01\x00\x40\x00\x80\x11\x0d\x68" + way + "\xc0\x01\x17\xc0\x00\x2b\x00\x00\x00\x04\x00\x00", whole4},
		{api.Tunnel{Mode: 3, TTL: 2, TOS: 16, Sum: true}, 0xff, 0xfffe,
			"\x45\x10\x00\x5c\x00\xff\x00\x00\x02\x11\xcb\x44" + way + "\xff\xfe\x17\xc0\x00\x48\x94\xfd\x00\x29\x00\x00", whole6},
		{api.Tunnel{Mode: 3, TTL: 2, TOS: 16, Sum: true}, 0xff, 0,
			"\x45\x10\x00\x3f\x00\xff\x00\x00\x02\x11\xcb\x61" + way + "\x00\x00\x17\xc0\x00\x2b\x0f\xb5\x00\x04\x00\x00", whole4},
	}
}

// P14.2, P14.3: packets that are known byte by byte, by each Mode.
func TestKnownBytes(t *testing.T) {
	for _, k := range examples() {
		w := tunnel.Way{Src: "\xc0\x00\x02\x01", Dst: "\xc6\x33\x64\x09", ID: k.id, Port: k.port}
		if p, e := tunnel.Wrap(k.t, w, k.inner); p != k.ahead+k.inner || e != api.OK {
			t.Errorf("Wrap(%+v, %s): %s, %v; want %s", k.t, along(w), shown(p), e, shown(k.ahead+k.inner))
		}
		mustBe(t, k.ahead+k.inner, k.t, w, k.inner)
	}
}

// P14.2: packets of both versions and of many lengths, by each Mode, whatever the way.
func TestWrapOrdinary(t *testing.T) {
	for _, x := range tunnels() {
		for _, w := range ways() {
			for _, inner := range inners() {
				mustWrap(t, x, w, inner)
			}
		}
		for n := 1; n <= len(whole6); n++ {
			mustWrap(t, x, ways()[0], first(n, whole4))
			mustWrap(t, x, ways()[0], first(n, whole6))
		}
	}
}

// P14.2: every first byte of a packet: those of neither version are refused, and so is no packet.
func TestWrapEveryFirstByte(t *testing.T) {
	for _, x := range tunnels() {
		for _, w := range ways() {
			mustNotWrap(t, x, w, "", api.ErrShort)
			for n := range 256 {
				for _, behind := range []string{"", "\x45", "\x60", whole4[1:]} {
					if n/16 == 4 || n/16 == 6 {
						mustWrap(t, x, w, byteText(n)+behind)
					} else {
						mustNotWrap(t, x, w, byteText(n)+behind, api.ErrVersion)
					}
				}
			}
		}
	}
}

// P14.2: what Check refuses is refused, whatever the way and the packet.
func TestWrapWhatMayNotBe(t *testing.T) {
	for _, w := range append(ways(), tunnel.Way{}, tunnel.Way{Src: "abcd", Dst: "abcde", ID: -1, Port: 65536}) {
		for _, inner := range []string{whole4, whole6, "", "\x50", "\x45" + strings.Repeat("x", 65535)} {
			for _, mode := range noModes() {
				mustNotWrap(t, api.Tunnel{Mode: mode, TTL: 64}, w, inner, api.ErrMode)
			}
			for _, x := range tunnels() {
				for _, n := range outside(255) {
					ttl, tos := x, x
					ttl.TTL, tos.TOS = n, n
					mustNotWrap(t, ttl, w, inner, api.ErrRange)
					mustNotWrap(t, tos, w, inner, api.ErrRange)
				}
			}
			for _, x := range []api.Tunnel{
				{Mode: 1, Sum: true}, {Mode: 1, Key: true}, {Mode: 1, Value: 1}, {Mode: 2, Value: 1}, {Mode: 2, Sum: true, Value: 1},
				{Mode: 3, Key: true}, {Mode: 3, Value: 1}, {Mode: 3, Sum: true, Key: true, Value: 1},
			} {
				mustNotWrap(t, x, w, inner, api.ErrForm)
			}
		}
	}
}

// P14.2: addresses of other lengths than 4, each alone and both, whatever the packet.
func TestWrapAddresses(t *testing.T) {
	for _, x := range tunnels() {
		for _, n := range []int{0, 1, 3, 4, 5, 8, 16, 260, 65540} {
			for _, m := range []int{0, 3, 4, 5, 16} {
				w := tunnel.Way{Src: strings.Repeat("s", n), Dst: strings.Repeat("d", m), ID: 1, Port: 2}
				turned := tunnel.Way{Src: w.Dst, Dst: w.Src, ID: 1, Port: 2}
				for _, inner := range []string{whole4, whole6} {
					if n == 4 && m == 4 {
						mustWrap(t, x, w, inner)
						mustWrap(t, x, turned, inner)
						continue
					}
					mustNotWrap(t, x, w, inner, api.ErrRange)
					mustNotWrap(t, x, turned, inner, api.ErrRange)
				}
			}
		}
	}
}

// P14.2: an ID and a Port below and above, each alone and both: the Port in each Mode, though it plays a part of GUE alone.
func TestWrapNumbersOutside(t *testing.T) {
	for _, x := range tunnels() {
		for _, n := range outside(65535) {
			id, port, both := ways()[0], ways()[0], ways()[0]
			id.ID, port.Port, both.ID, both.Port = n, n, n, n
			for _, w := range []tunnel.Way{id, port, both} {
				for _, inner := range []string{whole4, whole6, "", "\x50", "\x45" + strings.Repeat("x", 65535)} {
					mustNotWrap(t, x, w, inner, api.ErrRange)
				}
			}
		}
	}
}

// P14.2: every ID and every Port that may be; of any Mode but GUE the Port plays no part.
func TestWrapEveryNumber(t *testing.T) {
	for _, x := range tunnels() {
		none := ways()[0]
		none.Port = 0
		plain := mustWrap(t, x, none, whole4)
		for n := range 65536 {
			id, port := ways()[0], ways()[0]
			id.ID, port.Port = n, n
			mustWrap(t, x, id, whole6)
			if p := mustWrap(t, x, port, whole4); (p == plain) != (n == 0 || x.Mode != api.GUE) {
				t.Fatalf("%+v: of the port %d %s, of 0 %s", x, n, shown(p), shown(plain))
			}
		}
	}
}

// P14.2: every TTL and every TOS, with DF and without.
func TestWrapEveryTTLAndTOS(t *testing.T) {
	for _, x := range tunnels() {
		for n := range 256 {
			for _, x.DF = range []bool{false, true} {
				ttl, tos := x, x
				ttl.TTL, tos.TOS = n, n
				mustWrap(t, ttl, ways()[0], whole4)
				mustWrap(t, tos, ways()[0], whole6)
			}
		}
	}
}

// P14.2: the longest packet that fits, by each Mode, and one byte more.
func TestWrapLongest(t *testing.T) {
	for _, x := range tunnels() {
		fits := 65535 - slowSize(x)
		for _, w := range ways() {
			for _, ahead := range []string{"\x45", "\x60", whole4, whole6} {
				for _, fill := range []string{"x", "\x00", "\xff"} {
					longest := ahead + strings.Repeat(fill, fits-len(ahead))
					if p := mustWrap(t, x, w, longest); len(p) != 65535 {
						t.Errorf("%+v: %d bytes, want 65535", x, len(p))
					}
					mustWrap(t, x, w, longest[:fits-1])
					mustNotWrap(t, x, w, longest+"x", api.ErrLength)
				}
			}
		}
		for _, n := range []int{fits + 2, fits + 4, fits + 8, fits + 12, 65535, 65536, 131072 - slowSize(x), 131072, 1 << 20} {
			mustNotWrap(t, x, ways()[0], "\x45"+strings.Repeat("x", n-1), api.ErrLength)
			mustNotWrap(t, x, ways()[0], "\x60"+strings.Repeat("x", n-1), api.ErrLength)
			mustNotWrap(t, x, ways()[0], "\x50"+strings.Repeat("x", n-1), api.ErrVersion)
		}
	}
}

// P14.2: TTL, TOS, DF, ID and both addresses stand in the outer header alone; between other addresses a datagram's sum is another.
func TestWrapStandsInTheOuterHeaderAlone(t *testing.T) {
	type change struct {
		name   string
		places []int // of the outer header, beside its sum's
		make   func(x *api.Tunnel, w *tunnel.Way)
	}
	for _, c := range []change{
		{"TTL", []int{8}, func(x *api.Tunnel, _ *tunnel.Way) { x.TTL ^= 0xff }},
		{"TOS", []int{1}, func(x *api.Tunnel, _ *tunnel.Way) { x.TOS ^= 0xff }},
		{"DF", []int{6}, func(x *api.Tunnel, _ *tunnel.Way) { x.DF = !x.DF }},
		{"ID", []int{4, 5}, func(_ *api.Tunnel, w *tunnel.Way) { w.ID ^= 0x5a5a }},
		{"Src", []int{12, 13, 14, 15}, func(_ *api.Tunnel, w *tunnel.Way) { w.Src = "\x11\x22\x33\x44" }},
		{"Dst", []int{16, 17, 18, 19}, func(_ *api.Tunnel, w *tunnel.Way) { w.Dst = "\x55\x66\x77\x88" }},
	} {
		for _, x := range tunnels() {
			for _, inner := range []string{whole4, whole6, "\x45", "\x60" + strings.Repeat("z", 1001)} {
				other, w := x, ways()[0]
				c.make(&other, &w)
				may := map[int]bool{10: true, 11: true}
				for _, at := range c.places {
					may[at] = true
				}
				if x.Mode == api.GUE && x.Sum && c.places[0] >= 12 {
					may[26], may[27] = true, true
				}
				p, q := mustWrap(t, x, ways()[0], inner), mustWrap(t, other, w, inner)
				for i := range p {
					if p[i] != q[i] && !may[i] || p[i] == q[i] && i < 20 && may[i] && i != 10 && i != 11 {
						t.Errorf("%s of %+v: byte %d is %x, and %x", c.name, x, i, p[i], q[i])
					}
				}
			}
		}
	}
}

// wrapFault is a way in which what is handed to Wrap is wrong.
type wrapFault struct {
	name string
	e    api.Errno
	put  func(x *api.Tunnel, w *tunnel.Way, inner *string)
}

// wrapFaults are those that such a tunnel may have, the first asked first.
func wrapFaults(x api.Tunnel) []wrapFault {
	faults := []wrapFault{
		{"Mode", api.ErrMode, func(x *api.Tunnel, _ *tunnel.Way, _ *string) { x.Mode += 3 }},
		{"TTL", api.ErrRange, func(x *api.Tunnel, _ *tunnel.Way, _ *string) { x.TTL = 256 }},
		{"TOS", api.ErrRange, func(x *api.Tunnel, _ *tunnel.Way, _ *string) { x.TOS = -1 }},
		{"Value", api.ErrForm, func(x *api.Tunnel, _ *tunnel.Way, _ *string) { x.Key, x.Value = false, 9 }},
	}
	if x.Mode != api.GRE {
		faults = append(faults, wrapFault{"Key", api.ErrForm, func(x *api.Tunnel, _ *tunnel.Way, _ *string) { x.Key = true }})
	}
	if x.Mode == api.IPIP {
		faults = append(faults, wrapFault{"Sum", api.ErrForm, func(x *api.Tunnel, _ *tunnel.Way, _ *string) { x.Sum = true }})
	}
	return append(faults, []wrapFault{
		{"Src", api.ErrRange, func(_ *api.Tunnel, w *tunnel.Way, _ *string) { w.Src += "x" }},
		{"Dst", api.ErrRange, func(_ *api.Tunnel, w *tunnel.Way, _ *string) { w.Dst = w.Dst[:3] }},
		{"ID", api.ErrRange, func(_ *api.Tunnel, w *tunnel.Way, _ *string) { w.ID = 65536 }},
		{"Port", api.ErrRange, func(_ *api.Tunnel, w *tunnel.Way, _ *string) { w.Port = -1 }},
		{"no packet", api.ErrShort, func(_ *api.Tunnel, _ *tunnel.Way, inner *string) { *inner = "" }},
		{"neither version", api.ErrVersion, func(_ *api.Tunnel, _ *tunnel.Way, inner *string) { *inner = "\x5f" + *inner }},
		{"too long", api.ErrLength, func(_ *api.Tunnel, _ *tunnel.Way, inner *string) { *inner += strings.Repeat("\x00", 65535) }},
	}...)
}

// P14.2: each fault alone, and each set of them: the first that is asked is told.
func TestWrapSeveralFaults(t *testing.T) {
	for _, x := range tunnels() {
		faults := wrapFaults(x)
		for chosen := 1; chosen < 1<<len(faults); chosen++ {
			y, w, inner := x, ways()[0], []string{whole4, whole6}[chosen%2]
			want, names := api.OK, ""
			// The last that is put is the first that is asked, since it may hide what was put before.
			for i := len(faults) - 1; i >= 0; i-- {
				if chosen>>i&1 == 1 {
					faults[i].put(&y, &w, &inner)
					want, names = faults[i].e, names+", "+faults[i].name
				}
			}
			if p, e := tunnel.Wrap(y, w, inner); p != "" || e != want {
				t.Fatalf("%+v, faults%s: Wrap(%+v, %s, %s): %s, %v; want nothing, %v", x, names, y, along(w), shown(inner), shown(p), e, want)
			}
		}
	}
}

// P14.2: drawn tunnels, ways and packets, and the same call again, whatever was called between.
func TestWrapDrawn(t *testing.T) {
	draw := rand.New(rand.NewSource(141))
	for range 10000 {
		x, w, inner := drawnTunnel(draw), drawnWay(draw), drawnInner(draw, 1500)
		p := mustWrap(t, x, w, inner)
		tunnel.Wrap(drawnTunnel(draw), drawnWay(draw), drawnInner(draw, 40))
		tunnel.Unwrap(p[:draw.Intn(len(p))])
		if again := mustWrap(t, x, w, inner); again != p {
			t.Fatalf("Wrap(%+v, %s, %s): %s, and %s", x, along(w), shown(inner), shown(p), shown(again))
		}
	}
}
