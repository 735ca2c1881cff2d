package flow_test

import (
	"testing"

	"palanquin/api"
	"palanquin/flow"
)

// P9.1: every number in the sum's place: just the right one holds, and, of a datagram in IPv4, 0.
func TestGetEverySum(t *testing.T) {
	eachKind(t, func(t *testing.T, v version, k kind, whole string) {
		at := v.head + k.sumAt
		for n := range 65536 {
			want := api.ErrSum
			if n == numberAt(whole, at) || n == 0 && v.name == "IPv4" && k.name == "UDP" {
				want = api.OK
			}
			if _, e := flow.Get(v.put(k.proto, withTwo(whole, at, n)[v.head:])); e != want {
				t.Fatalf("sum %#x: %v, want %v", n, e, want)
			}
		}
	})
}

// P9.1: where a segment's sum comes out as 0, 0 and FFFF both hold; so does a datagram's, but not 0 in IPv6.
func TestGetSumOfZero(t *testing.T) {
	eachKind(t, func(t *testing.T, v version, k kind, _ string) {
		b := summingToZero(v, k)
		for n := range 65536 {
			want := api.ErrSum
			if n == 65535 || n == 0 && (k.name == "TCP" || v.name == "IPv4") {
				want = api.OK
			}
			if _, e := flow.Get(v.put(k.proto, withTwo(b, k.sumAt, n))); e != want {
				t.Fatalf("sum %#x: %v, want %v", n, e, want)
			}
		}
	})
}

// P9.1: a segment has no sum of 0 that is let pass, in either version.
func TestGetSegmentWithoutSum(t *testing.T) {
	for _, v := range versions() {
		mustRefuse(t, v.name, v.put(6, plainSegment), api.ErrSum)
	}
}

// P9.1: one bit of the sum, or of what else the payload says, turned.
func TestGetEveryBitOfThePayload(t *testing.T) {
	eachKind(t, func(t *testing.T, v version, k kind, whole string) {
		payload := whole[v.head:]
		for at := range payload {
			for bit := range 8 {
				p := v.put(k.proto, withByte(payload, at, payload[at]^1<<bit))
				e := mustGet(t, p)
				if e == api.OK {
					t.Errorf("byte %d, bit %d: taken", at, bit)
				}
				if structure := saysItsForm(k, at); !structure && e != api.ErrSum {
					t.Errorf("byte %d, bit %d: %v, want %v", at, bit, e, api.ErrSum)
				}
			}
		}
	})
}

// saysItsForm tells the places of what layers 7 and 8 ask about themselves.
func saysItsForm(k kind, at int) bool {
	if k.name == "TCP" {
		return at == 12 || at >= 20 && at < 24
	}
	return at == 4 || at == 5
}

// P9.1: the sum is of the addresses, too, which are turned here by one bit each.
func TestGetEveryBitOfTheAddresses(t *testing.T) {
	eachKind(t, func(t *testing.T, v version, _ kind, whole string) {
		for at := v.srcAt; at < v.srcAt+2*len(v.src); at++ {
			for bit := range 8 {
				mustRefuse(t, "an address", v.mend(withByte(whole, at, whole[at]^1<<bit)), api.ErrSum)
			}
		}
	})
}

// P9.1: both addresses in each other's place have the same sum; the flow tells which was which.
func TestGetAddressesTurned(t *testing.T) {
	eachKind(t, func(t *testing.T, v version, k kind, whole string) {
		p := whole[:v.srcAt] + v.dst + v.src + whole[v.srcAt+2*len(v.src):]
		want := plainFlow(v, k)
		want.Src, want.Dst = v.dst, v.src
		mustBe(t, "turned", v.mend(p), want)
	})
}

// P9.1: what the header says beside is no part of the flow, nor of the payload's sum.
func TestGetOtherHeaders(t *testing.T) {
	eachKind(t, func(t *testing.T, v version, k kind, whole string) {
		beside := map[string][]int{"IPv4": {1, 4, 5, 8, 20, 21, 22, 23}, "IPv6": {1, 2, 3, 7}}[v.name]
		for _, at := range beside {
			for n := range 256 {
				mustBe(t, "beside", v.mend(withByte(whole, at, byte(n))), plainFlow(v, k))
			}
		}
	})
}

// P9.1: the sum is of the payload's own protocol and length, and not of others.
func TestGetSumOfAnotherAhead(t *testing.T) {
	eachKind(t, func(t *testing.T, v version, k kind, whole string) {
		b := whole[v.head:]
		right := numberAt(b, k.sumAt)
		for _, proto := range []int{0, 4, 6, 17, 41} {
			for _, n := range []int{0, len(b) - 1, len(b), len(b) + 1, len(whole)} {
				own := slowSum(slowAhead(v.src, v.dst, proto, n) + withTwo(b, k.sumAt, 0))
				want := api.OK
				if own != right {
					want = api.ErrSum
				}
				if _, e := flow.Get(v.put(k.proto, withTwo(b, k.sumAt, own))); e != want {
					t.Errorf("protocol %d, length %d: %v, want %v", proto, n, e, want)
				}
			}
		}
		mustRefuse(t, "nothing ahead", v.put(k.proto, withTwo(b, k.sumAt, slowSum(k.plain))), api.ErrSum)
	})
}
