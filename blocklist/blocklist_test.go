package blocklist

import (
	"bytes"
	"slices"
	"testing"

	"ginnel/api"
	"ginnel/cidr"
	"ginnel/ip"
)

// block is a prefix of the list: its notation, and its first and its last address.
type block struct {
	prefix, first, last string
}

// blocks returns the list of P11.1, in its order.
func blocks() []block {
	return []block{
		{"0.0.0.0/8", "0.0.0.0", "0.255.255.255"},
		{"10.0.0.0/8", "10.0.0.0", "10.255.255.255"},
		{"100.64.0.0/10", "100.64.0.0", "100.127.255.255"},
		{"127.0.0.0/8", "127.0.0.0", "127.255.255.255"},
		{"169.254.0.0/16", "169.254.0.0", "169.254.255.255"},
		{"172.16.0.0/12", "172.16.0.0", "172.31.255.255"},
		{"192.168.0.0/16", "192.168.0.0", "192.168.255.255"},
		{"224.0.0.0/3", "224.0.0.0", "255.255.255.255"},
		{"::/128", "::", "::"},
		{"::1/128", "::1", "::1"},
		{"::ffff:0:0/96", "::ffff:0:0", "::ffff:ffff:ffff"},
		{"64:ff9b::/96", "64:ff9b::", "64:ff9b::ffff:ffff"},
		{"fc00::/7", "fc00::", "fdff:ffff:ffff:ffff:ffff:ffff:ffff:ffff"},
		{"fe80::/10", "fe80::", "febf:ffff:ffff:ffff:ffff:ffff:ffff:ffff"},
		{"ff00::/8", "ff00::", "ffff:ffff:ffff:ffff:ffff:ffff:ffff:ffff"},
	}
}

// span is a block as a range of the sixteen bytes of its addresses.
type span struct {
	first, last api.Addr
}

func (s span) has(a api.Addr) bool {
	return a.IPv6 == s.first.IPv6 && bytes.Compare(s.first.Bytes[:], a.Bytes[:]) <= 0 && bytes.Compare(a.Bytes[:], s.last.Bytes[:]) <= 0
}

func spans(t *testing.T) []span {
	t.Helper()
	var l []span
	for _, b := range blocks() {
		l = append(l, span{addr(t, b.first), addr(t, b.last)})
	}
	return l
}

// modelIndex is Index for a valid address: it knows ranges, and nothing of bits.
func modelIndex(l []span, a api.Addr) int {
	return slices.IndexFunc(l, func(s span) bool { return s.has(a) })
}

func addr(t *testing.T, s string) api.Addr {
	t.Helper()
	a, ok := ip.Parse(s)
	if !ok {
		t.Fatalf("%q is no address", s)
	}
	return a
}

// six returns the address with the given groups.
func six(groups [8]uint16) api.Addr {
	a := api.Addr{IPv6: true}
	for i, g := range groups {
		a.Bytes[2*i], a.Bytes[2*i+1] = byte(g>>8), byte(g)
	}
	return a
}

// withBit returns a with bit i inverted.
func withBit(a api.Addr, i int) api.Addr {
	a.Bytes[i/8] ^= 0x80 >> (i % 8)
	return a
}

// edges returns the first and the last address of each block.
func edges(t *testing.T) []api.Addr {
	t.Helper()
	var l []api.Addr
	for _, s := range spans(t) {
		l = append(l, s.first, s.last)
	}
	return l
}

// check holds Index of a valid address against want, and Contains against whether there is an index.
func check(t *testing.T, a api.Addr, want int) {
	t.Helper()
	if got := Index(a); got != want {
		t.Errorf("Index(%s) = %d, want %d", ip.Format(a), got, want)
	}
	if got := Contains(a); got != (want >= 0) {
		t.Errorf("Contains(%s) = %v, want %v", ip.Format(a), got, want >= 0)
	}
}

// P11.1: Prefixes

func checkPrefixes(t *testing.T) {
	t.Helper()
	got, want := Prefixes(), blocks()
	if len(got) != len(want) {
		t.Fatalf("Prefixes() has %d prefixes, want %d", len(got), len(want))
	}
	for i, b := range want {
		p, ok := cidr.Parse(b.prefix)
		if !ok {
			t.Fatalf("%q is no prefix", b.prefix)
		}
		if got[i] != p {
			t.Errorf("prefix %d is %v, want %v, which is %s", i, got[i], p, b.prefix)
		}
	}
}

func TestPrefixes(t *testing.T) {
	checkPrefixes(t)
}

// The lengths, and the bytes that are not zero, without the help of package cidr.
func TestPrefixesByBytes(t *testing.T) {
	want := []api.Prefix{
		{Bits: 8},
		{Addr: api.Addr{Bytes: [16]byte{10}}, Bits: 8},
		{Addr: api.Addr{Bytes: [16]byte{100, 64}}, Bits: 10},
		{Addr: api.Addr{Bytes: [16]byte{127}}, Bits: 8},
		{Addr: api.Addr{Bytes: [16]byte{169, 254}}, Bits: 16},
		{Addr: api.Addr{Bytes: [16]byte{172, 16}}, Bits: 12},
		{Addr: api.Addr{Bytes: [16]byte{192, 168}}, Bits: 16},
		{Addr: api.Addr{Bytes: [16]byte{224}}, Bits: 3},
		{Addr: api.Addr{IPv6: true}, Bits: 128},
		{Addr: api.Addr{IPv6: true, Bytes: [16]byte{15: 1}}, Bits: 128},
		{Addr: api.Addr{IPv6: true, Bytes: [16]byte{10: 0xff, 11: 0xff}}, Bits: 96},
		{Addr: api.Addr{IPv6: true, Bytes: [16]byte{0, 0x64, 0xff, 0x9b}}, Bits: 96},
		{Addr: api.Addr{IPv6: true, Bytes: [16]byte{0xfc}}, Bits: 7},
		{Addr: api.Addr{IPv6: true, Bytes: [16]byte{0xfe, 0x80}}, Bits: 10},
		{Addr: api.Addr{IPv6: true, Bytes: [16]byte{0xff}}, Bits: 8},
	}
	if got := Prefixes(); !slices.Equal(got, want) {
		t.Errorf("Prefixes() = %v, want %v", got, want)
	}
}

// R3: what is done to a returned list changes neither the next one nor the other functions.
func TestPrefixesAreCopies(t *testing.T) {
	kept := Prefixes()
	before := slices.Clone(kept)
	changed := Prefixes()
	everything := api.Prefix{Addr: ip.V4(0, 0, 0, 0)}
	for i := range changed {
		changed[i] = everything
	}
	changed = append(changed[:0], everything, everything)
	slices.Reverse(changed[:cap(changed)])
	if !slices.Equal(kept, before) {
		t.Errorf("a change of one list changed another to %v", kept)
	}
	checkPrefixes(t)
	for i, s := range spans(t) {
		check(t, s.first, i)
		check(t, s.last, i)
	}
	check(t, ip.V4(8, 8, 8, 8), -1)
}

// P11.1: Index and Contains

func TestOrdinaryAddresses(t *testing.T) {
	for _, c := range []struct {
		address string
		want    int
	}{
		{"0.1.2.3", 0}, {"10.1.2.3", 1}, {"100.100.1.2", 2}, {"127.0.0.1", 3}, {"127.0.0.53", 3}, {"169.254.169.254", 4}, {"172.20.1.2", 5}, {"192.168.1.1", 6},
		{"224.0.0.1", 7}, {"239.1.2.3", 7}, {"240.0.0.1", 7}, {"254.1.2.3", 7}, {"255.255.255.254", 7},
		{"1.1.1.1", -1}, {"8.8.8.8", -1}, {"93.184.216.34", -1}, {"100.0.0.1", -1}, {"169.1.2.3", -1}, {"172.217.1.2", -1}, {"192.0.2.1", -1}, {"198.18.0.1", -1}, {"203.0.113.7", -1}, {"223.1.2.3", -1},
		{"64:ff9b::1", 11}, {"fc00::1", 12}, {"fd12:3456:789a::1", 12}, {"fe80::1", 13}, {"fe80:0:0:1::1", 13}, {"fea0::1", 13}, {"ff02::1", 14}, {"ff0e::1", 14},
		{"2001:db8::1", -1}, {"2606:4700:4700::1111", -1}, {"2001:4860:4860::8888", -1}, {"fec0::1", -1}, {"::3", -1}, {"::1:1", -1}, {"1::", -1}, {"1::1", -1},
	} {
		check(t, addr(t, c.address), c.want)
	}
}

func TestFirstAndLastAddresses(t *testing.T) {
	for i, s := range spans(t) {
		check(t, s.first, i)
		check(t, s.last, i)
	}
}

// The addresses just before and just behind each prefix. Nothing comes before 0.0.0.0 and ::, and nothing behind 255.255.255.255 and the last IPv6 address.
func TestNeighbours(t *testing.T) {
	for _, c := range []struct {
		address string
		want    int
	}{
		{"1.0.0.0", -1},
		{"9.255.255.255", -1}, {"11.0.0.0", -1},
		{"100.63.255.255", -1}, {"100.128.0.0", -1},
		{"126.255.255.255", -1}, {"128.0.0.0", -1},
		{"169.253.255.255", -1}, {"169.255.0.0", -1},
		{"172.15.255.255", -1}, {"172.32.0.0", -1},
		{"192.167.255.255", -1}, {"192.169.0.0", -1},
		{"223.255.255.255", -1},
		{"::1", 9},
		{"::", 8}, {"::2", -1},
		{"::fffe:ffff:ffff", -1}, {"::1:0:0:0", -1},
		{"64:ff9a:ffff:ffff:ffff:ffff:ffff:ffff", -1}, {"64:ff9b::1:0:0", -1},
		{"fbff:ffff:ffff:ffff:ffff:ffff:ffff:ffff", -1}, {"fe00::", -1},
		{"fe7f:ffff:ffff:ffff:ffff:ffff:ffff:ffff", -1}, {"fec0::", -1},
		{"feff:ffff:ffff:ffff:ffff:ffff:ffff:ffff", -1},
	} {
		check(t, addr(t, c.address), c.want)
	}
}

// Of a prefix of n bits, the first n bits count and no others: each of them alone leads out of the prefix, and all others together do not.
func TestEveryBitOfEveryPrefix(t *testing.T) {
	l := spans(t)
	for i, p := range Prefixes() {
		size := ip.BitLen(p.Addr)
		for bit := range size {
			a, b := withBit(l[i].first, bit), withBit(l[i].last, bit)
			inside := bit >= p.Bits
			if (Index(a) == i) != inside || (Index(b) == i) != inside {
				t.Errorf("with bit %d inverted, %v and %v have the indices %d and %d; whether it is %d should be %v", bit, a, b, Index(a), Index(b), i, inside)
			}
			check(t, a, modelIndex(l, a))
			check(t, b, modelIndex(l, b))
		}
	}
}

// Two inverted bits lead from the edges of a prefix to those of others, too.
func TestEveryPairOfBits(t *testing.T) {
	l := spans(t)
	for _, a := range edges(t) {
		for i := range ip.BitLen(a) {
			for j := range i {
				b := withBit(withBit(a, i), j)
				check(t, b, modelIndex(l, b))
			}
		}
	}
}

// For every length, the addresses that share just so many bits with the first or the last address of a prefix, followed by zeros or by ones.
func TestEveryLength(t *testing.T) {
	l := spans(t)
	for _, a := range edges(t) {
		zeros, ones := a, a
		for bit := ip.BitLen(a) - 1; bit >= 0; bit-- {
			mask := byte(0x80) >> (bit % 8)
			zeros.Bytes[bit/8] &^= mask
			ones.Bytes[bit/8] |= mask
			check(t, zeros, modelIndex(l, zeros))
			check(t, ones, modelIndex(l, ones))
		}
	}
}

// No IPv4 prefix of the list is longer than 16 bits, so the first two bytes decide.
func TestEveryFirstHalfOfIPv4(t *testing.T) {
	l := spans(t)
	for x := range 1 << 16 {
		for _, c := range [][2]byte{{0, 0}, {127, 1}, {255, 255}} {
			a := ip.V4(byte(x>>8), byte(x), c[0], c[1])
			check(t, a, modelIndex(l, a))
		}
	}
}

func TestEveryFirstGroupOfIPv6(t *testing.T) {
	l := spans(t)
	for x := range 1 << 16 {
		for _, groups := range [][8]uint16{{}, {7: 1}, {1: 0xff9b, 7: 1}, {5: 0xffff}, {0, 0xffff, 0xffff, 0xffff, 0xffff, 0xffff, 0xffff, 0xffff}} {
			groups[0] = uint16(x)
			a := six(groups)
			check(t, a, modelIndex(l, a))
		}
	}
}

// An IPv4-mapped address and a NAT64 address are blocked as such, whatever the IPv4 address is. Other ways of holding one are not.
func TestIPv4InsideIPv6(t *testing.T) {
	for _, v4 := range []string{"0.0.0.0", "0.0.0.1", "0.0.0.2", "1.2.3.4", "8.8.8.8", "10.0.0.1", "100.64.0.1", "127.0.0.1", "169.254.169.254", "172.16.0.1", "192.168.0.1", "224.0.0.1", "255.255.255.255"} {
		check(t, addr(t, "::ffff:"+v4), 10)
		check(t, addr(t, "64:ff9b::"+v4), 11)
		for _, start := range []string{"::1:", "::2:", "::fffe:", "::ffff:0:", "0:0:0:0:1:ffff:", "1::ffff:", "8000::ffff:", "64:ff9b:1::", "64:ff9b::1:", "64:ff9b:0:0:1::", "64:ff9a::", "64:ff9c::", "65:ff9b::", "0:64:ff9b::", "2001:db8::", "2002::"} {
			check(t, addr(t, start+v4), -1)
		}
	}
	for _, compatible := range []string{"::8.8.8.8", "::10.0.0.1", "::127.0.0.1", "::255.255.255.255"} {
		check(t, addr(t, compatible), -1)
	}
	for x := range 1 << 16 {
		check(t, six([8]uint16{5: 0xffff, 6: uint16(x), 7: ^uint16(x)}), 10)
		check(t, six([8]uint16{0: 0x64, 1: 0xff9b, 6: uint16(x), 7: ^uint16(x)}), 11)
	}
}

// The same bytes belong to another prefix, or to none, if the address is of the other family.
func TestFamilies(t *testing.T) {
	for _, c := range []struct {
		bytes  [16]byte
		v4, v6 int
	}{
		{[16]byte{}, 0, 8},
		{[16]byte{0, 0, 0, 1}, 0, -1},
		{[16]byte{0, 0x64, 0xff, 0x9b}, 0, 11},
		{[16]byte{10}, 1, -1},
		{[16]byte{10, 1, 2, 3}, 1, -1},
		{[16]byte{100, 64}, 2, -1},
		{[16]byte{127, 0, 0, 1}, 3, -1},
		{[16]byte{169, 254, 1, 1}, 4, -1},
		{[16]byte{172, 16, 0, 1}, 5, -1},
		{[16]byte{192, 168, 0, 1}, 6, -1},
		{[16]byte{224, 0, 0, 1}, 7, -1},
		{[16]byte{0xfb, 255, 255, 255}, 7, -1},
		{[16]byte{0xfc}, 7, 12},
		{[16]byte{0xfd, 1}, 7, 12},
		{[16]byte{0xfe, 0x80}, 7, 13},
		{[16]byte{0xfe, 0xc0}, 7, -1},
		{[16]byte{0xff, 2}, 7, 14},
		{[16]byte{8, 8, 8, 8}, -1, -1},
	} {
		check(t, api.Addr{Bytes: c.bytes}, c.v4)
		check(t, api.Addr{IPv6: true, Bytes: c.bytes}, c.v6)
	}
}

// An address that is not valid is in no prefix, and blocked all the same.
func TestInvalidAddresses(t *testing.T) {
	l := []api.Addr{ip.V4(8, 8, 8, 8), ip.V4(223, 255, 255, 255), ip.V4(255, 255, 255, 255)}
	for _, a := range edges(t) {
		a.IPv6 = false // some of the IPv6 addresses are IPv4 addresses then, with something behind them
		l = append(l, a)
	}
	for _, a := range l {
		for i := 4; i < 16; i++ {
			for _, x := range []byte{1, 128, 255} {
				b := a
				b.Bytes[i] = x
				if got := Index(b); got != -1 {
					t.Errorf("Index(%v), which is not valid, = %d, want -1", b, got)
				}
				if !Contains(b) {
					t.Errorf("Contains(%v), which is not valid, = false, want true", b)
				}
			}
		}
	}
}

// The section "Consequences" of the chapter

func TestPrefixesAreDisjoint(t *testing.T) {
	l := Prefixes()
	for i, p := range l {
		if !cidr.Contains(p, p.Addr) {
			t.Errorf("prefix %d, %v, is not valid", i, p)
		}
		for j, q := range l {
			if i != j && (cidr.Covers(p, q) || cidr.Contains(p, q.Addr)) {
				t.Errorf("prefix %d, %v, and prefix %d, %v, overlap", i, p, j, q)
			}
		}
	}
}

// The index of an address is that of the only prefix that contains it.
func TestNoAddressIsInTwoPrefixes(t *testing.T) {
	l := Prefixes()
	for _, a := range edges(t) {
		for bit := range ip.BitLen(a) {
			b := withBit(a, bit)
			for i, p := range l {
				if cidr.Contains(p, b) != (Index(b) == i) {
					t.Errorf("Index(%s) = %d, and whether prefix %d contains it is %v", ip.Format(b), Index(b), i, cidr.Contains(p, b))
				}
			}
		}
	}
}

// The section "Examples" of the chapter

func TestExamples(t *testing.T) {
	if !Contains(addr(t, "127.0.0.1")) || !Contains(addr(t, "::ffff:8.8.8.8")) || Contains(addr(t, "8.8.8.8")) {
		t.Error("Contains is not what example 1 says")
	}
	if got := Index(addr(t, "::1")); got != 9 {
		t.Errorf("Index(::1) = %d, want 9", got)
	}
}
