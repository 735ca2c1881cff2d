package udp_test

import (
	"math/rand"
	"strings"
	"testing"

	"palanquin/api"
	"palanquin/udp"
)

// mustComeBack puts a datagram with a sum, and gets them.
func mustComeBack(t *testing.T, d api.Datagram, sum int) string {
	t.Helper()
	b, e := udp.Put(d, sum)
	if e != api.OK {
		t.Fatalf("Put(%s, %d): %v", told(d), sum, e)
	}
	if back, got, e := udp.Get(b); back != d || got != sum || e != api.OK {
		t.Fatalf("put %s, %d; got %s, %d, %v", told(d), sum, told(back), got, e)
	}
	return b
}

// mustGoBack gets a datagram, and puts what it got.
func mustGoBack(t *testing.T, b string) {
	t.Helper()
	d, sum, e := udp.Get(b)
	if e != api.OK {
		t.Fatalf("Get(%s): %v", shown(b), e)
	}
	if e := udp.Check(d); e != api.OK {
		t.Fatalf("Get(%s): a datagram that may not be: %s, %v", shown(b), told(d), e)
	}
	if again, e := udp.Put(d, sum); again != b || e != api.OK {
		t.Fatalf("%s became %s, %v", shown(b), shown(again), e)
	}
}

// P8.2: each port, and the sum, at each of its values comes back, and the bytes go back.
func TestEveryNumberComesBack(t *testing.T) {
	for n := range 65536 {
		for _, x := range ports() {
			d := plain()
			*x.of(&d) = n
			mustGoBack(t, mustComeBack(t, d, plainSum))
		}
		mustGoBack(t, mustComeBack(t, plain(), n))
	}
}

// P8.2: payloads of every number of bytes up to some, and of as many as may be.
func TestEveryLengthComesBack(t *testing.T) {
	lengths := []int{1000, 4096, 32759, 32760, 65279, 65280, 65526, 65527}
	for n := range 300 {
		lengths = append(lengths, n)
	}
	for _, n := range lengths {
		for _, with := range []string{"\x00", "\x08", "\xff"} {
			mustGoBack(t, mustComeBack(t, api.Datagram{Src: 5, Dst: 6, Payload: strings.Repeat(with, n)}, plainSum))
		}
	}
}

// P8.2: the least and the greatest, together.
func TestEdgesComeBack(t *testing.T) {
	longest := strings.Repeat("\xff", 65527)
	for _, src := range []int{0, 65535} {
		for _, dst := range []int{0, 65535} {
			for _, sum := range []int{0, 65535} {
				for _, payload := range []string{"", longest} {
					mustGoBack(t, mustComeBack(t, api.Datagram{Src: src, Dst: dst, Payload: payload}, sum))
				}
			}
		}
	}
}

// P8.2: drawn datagrams come back.
func TestDrawnComeBack(t *testing.T) {
	draw := rand.New(rand.NewSource(83))
	for range 5000 {
		d, sum := drawnDatagram(draw)
		mustComeBack(t, d, sum)
	}
}

// P8.2: drawn bytes that are a datagram go back to the same bytes.
func TestDrawnGoBack(t *testing.T) {
	draw := rand.New(rand.NewSource(84))
	for range 5000 {
		b := drawnText(draw, 8+draw.Intn(300))
		mustGoBack(t, saying(b, len(b)))
	}
}

// P8.2: a datagram within a datagram comes back, and its ports are no part of the outer one.
func TestWithinComesBack(t *testing.T) {
	b := mustComeBack(t, plain(), plainSum)
	for n := range 20 {
		b = mustComeBack(t, api.Datagram{Src: n, Dst: 100 + n, Payload: b}, 200+n)
	}
}
