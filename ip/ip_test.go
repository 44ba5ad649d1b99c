package ip

import (
	"math"
	"slices"
	"testing"

	"ginnel/api"
)

// six returns the IPv6 address with the given groups.
func six(t *testing.T, l ...uint16) api.Addr {
	t.Helper()
	a, ok := V6(l...)
	if !ok {
		t.Fatalf("V6(%x) returns false", l)
	}
	return a
}

// withTail returns an IPv4 address that is not valid because byte i, of the last twelve, is not zero.
func withTail(i int) api.Addr {
	a := V4(192, 0, 2, 33)
	a.Bytes[i] = 1
	return a
}

// samples returns addresses of both families, valid and not, whose bytes differ in various places.
func samples(t *testing.T) []api.Addr {
	l := []api.Addr{
		V4(0, 0, 0, 0), V4(0, 0, 0, 1), V4(1, 2, 3, 4), V4(10, 0, 0, 1), V4(127, 255, 255, 255), V4(128, 0, 0, 0), V4(255, 255, 255, 255),
		six(t, 0, 0, 0, 0, 0, 0, 0, 0), six(t, 0, 0, 0, 0, 0, 0, 0, 1), six(t, 0, 0, 0, 0, 0, 0xffff, 0xa00, 1),
		six(t, 0x2001, 0xdb8, 0, 0, 1, 0, 0, 1), six(t, 0x8000, 0, 0, 0, 0, 0, 0, 0), six(t, 0x102, 0x304, 0, 0, 0, 0, 0, 0),
		six(t, 0xffff, 0xffff, 0xffff, 0xffff, 0xffff, 0xffff, 0xffff, 0xffff),
	}
	for i := 4; i < 16; i++ {
		l = append(l, withTail(i))
	}
	return l
}

// P7.1: Valid

func TestValidOfIPv4(t *testing.T) {
	for _, a := range []api.Addr{{}, V4(1, 2, 3, 4), V4(0, 0, 0, 255), V4(255, 255, 255, 255)} {
		if !Valid(a) {
			t.Errorf("Valid(%v) = false", a)
		}
	}
	for i := 4; i < 16; i++ {
		for _, x := range []byte{1, 0x80, 0xff} {
			a := api.Addr{}
			a.Bytes[i] = x
			b := V4(1, 2, 3, 4)
			b.Bytes[i] = x
			if Valid(a) || Valid(b) {
				t.Errorf("an IPv4 address whose byte %d is %d is valid", i, x)
			}
		}
	}
}

func TestValidOfIPv6(t *testing.T) {
	for i := range 16 {
		a := api.Addr{IPv6: true}
		a.Bytes[i] = 1
		if !Valid(a) {
			t.Errorf("Valid(%v) = false", a)
		}
	}
	if !Valid(api.Addr{IPv6: true}) || !Valid(six(t, 1, 2, 3, 4, 5, 6, 7, 8)) {
		t.Errorf("an IPv6 address is not valid")
	}
}

// P7.1: V4 and V6

func TestV4(t *testing.T) {
	if got, want := V4(1, 2, 3, 4), (api.Addr{Bytes: [16]byte{1, 2, 3, 4}}); got != want {
		t.Errorf("V4(1, 2, 3, 4) = %v, want %v", got, want)
	}
	if got, want := V4(255, 0, 128, 127), (api.Addr{Bytes: [16]byte{255, 0, 128, 127}}); got != want {
		t.Errorf("V4(255, 0, 128, 127) = %v, want %v", got, want)
	}
}

func TestV6(t *testing.T) {
	want := api.Addr{IPv6: true, Bytes: [16]byte{0, 1, 2, 3, 4, 5, 6, 7, 8, 9, 10, 11, 12, 13, 14, 255}}
	if got, ok := V6(0x0001, 0x0203, 0x0405, 0x0607, 0x0809, 0x0a0b, 0x0c0d, 0x0eff); got != want || !ok {
		t.Errorf("V6 = %v, %v, want %v, true", got, ok, want)
	}
	if got, ok := V6(0, 0, 0, 0, 0, 0, 0, 0); got != (api.Addr{IPv6: true}) || !ok {
		t.Errorf("V6 of zero groups = %v, %v", got, ok)
	}
}

func TestV6CountsTheGroups(t *testing.T) {
	groups := []uint16{1, 2, 3, 4, 5, 6, 7, 8, 9, 10, 11, 12, 13, 14, 15, 16, 17}
	for n := range len(groups) + 1 {
		a, ok := V6(groups[:n]...)
		if ok != (n == 8) {
			t.Errorf("V6 of %d groups returns %v", n, ok)
		}
		if !ok && a != (api.Addr{}) {
			t.Errorf("V6 of %d groups returns the address %v beside false", n, a)
		}
	}
	if a, ok := V6(); ok || a != (api.Addr{}) {
		t.Errorf("V6() = %v, %v, want a zero address and false", a, ok)
	}
}

// R3: neither the groups nor the memory behind them change.

func TestV6LeavesItsGroupsAlone(t *testing.T) {
	memory := []uint16{1, 2, 3, 4, 5, 6, 7, 8, 9, 10}
	before := slices.Clone(memory)
	for n := range len(memory) + 1 {
		V6(memory[:n]...)
	}
	if !slices.Equal(memory, before) {
		t.Errorf("the groups became %v, want %v", memory, before)
	}
}

// P7.1: BitLen and Bit

func TestBitLen(t *testing.T) {
	for _, a := range samples(t) {
		want := 32
		if a.IPv6 {
			want = 128
		}
		if got := BitLen(a); got != want {
			t.Errorf("BitLen(%v) = %d, want %d", a, got, want)
		}
	}
}

// An address of which one bit is set has that bit and no other.
func TestBitOfSingleBits(t *testing.T) {
	for _, v6 := range []bool{false, true} {
		for set := range 128 {
			a := api.Addr{IPv6: v6}
			a.Bytes[set/8] = []byte{0x80, 0x40, 0x20, 0x10, 8, 4, 2, 1}[set%8]
			checkBits(t, a, func(i int) bool { return i == set })
			for i := range a.Bytes {
				a.Bytes[i] ^= 0xff
			}
			checkBits(t, a, func(i int) bool { return i != set })
		}
	}
}

// checkBits holds the bits of a, and what lies beside them, against those that should be set.
func checkBits(t *testing.T, a api.Addr, set func(i int) bool) {
	t.Helper()
	for i := -9; i < 140; i++ {
		want := 0
		switch {
		case i < 0 || i >= 128 || i >= 32 && !a.IPv6:
			want = -1
		case set(i):
			want = 1
		}
		if got := Bit(a, i); got != want {
			t.Errorf("Bit(%v, %d) = %d, want %d", a, i, got, want)
		}
	}
}

func TestBitOutOfRange(t *testing.T) {
	four, tail, v6 := V4(255, 255, 255, 255), api.Addr{}, api.Addr{IPv6: true}
	for i := range 16 {
		tail.Bytes[i], v6.Bytes[i] = 0xff, 0xff
	}
	for _, i := range []int{math.MinInt, math.MinInt32, -129, -128, -32, -8, -1, 128, 129, 255, 256, 1 << 31, 1 << 32, math.MaxInt} {
		for _, a := range []api.Addr{four, tail, v6} {
			if got := Bit(a, i); got != -1 {
				t.Errorf("Bit(%v, %d) = %d, want -1", a, i, got)
			}
		}
	}
	for _, i := range []int{32, 33, 64, 127} {
		if x, y, z := Bit(four, i), Bit(tail, i), Bit(v6, i); x != -1 || y != -1 || z != 1 {
			t.Errorf("bit %d of two IPv4 addresses and an IPv6 address: %d, %d, %d, want -1, -1, 1", i, x, y, z)
		}
	}
	for _, i := range []int{0, 31} {
		if x, y, z := Bit(four, i), Bit(tail, i), Bit(v6, i); x != 1 || y != 1 || z != 1 {
			t.Errorf("bit %d of two IPv4 addresses and an IPv6 address: %d, %d, %d, want 1, 1, 1", i, x, y, z)
		}
	}
}

// P7.1: Compare

func TestCompareFamiliesFirst(t *testing.T) {
	for _, a := range samples(t) {
		for _, b := range samples(t) {
			if a.IPv6 || !b.IPv6 {
				continue
			}
			if x, y := Compare(a, b), Compare(b, a); x != -1 || y != 1 {
				t.Errorf("Compare of %v and %v = %d, and exchanged %d, want -1 and 1", a, b, x, y)
			}
		}
	}
	high, low := api.Addr{Bytes: [16]byte{255, 255, 255, 255, 255}}, api.Addr{IPv6: true}
	if x, y := Compare(high, low), Compare(low, high); x != -1 || y != 1 {
		t.Errorf("Compare of the greatest IPv4 with the least IPv6 address = %d, and exchanged %d", x, y)
	}
}

func TestCompareOneByte(t *testing.T) {
	for _, v6 := range []bool{false, true} {
		for i := range 16 { // of an IPv4 address, also the bytes that make it invalid
			for _, c := range [][2]byte{{0, 1}, {1, 2}, {127, 128}, {1, 255}, {254, 255}} {
				a := api.Addr{IPv6: v6, Bytes: [16]byte{9, 9, 9, 9, 9, 9, 9, 9, 9, 9, 9, 9, 9, 9, 9, 9}}
				b := a
				a.Bytes[i], b.Bytes[i] = c[0], c[1]
				if x, y, z := Compare(a, b), Compare(b, a), Compare(a, a); x != -1 || y != 1 || z != 0 {
					t.Errorf("Compare of %v and %v = %d, exchanged %d, with itself %d", a, b, x, y, z)
				}
			}
		}
	}
}

// The first byte that differs decides, whatever follows.
func TestCompareFirstDifference(t *testing.T) {
	for _, v6 := range []bool{false, true} {
		for i := range 15 {
			a, b := api.Addr{IPv6: v6}, api.Addr{IPv6: v6}
			b.Bytes[i] = 1
			for j := i + 1; j < 16; j++ {
				a.Bytes[j] = 255
			}
			if x, y := Compare(a, b), Compare(b, a); x != -1 || y != 1 {
				t.Errorf("Compare of %v and %v = %d, and exchanged %d, want -1 and 1", a, b, x, y)
			}
		}
	}
}

func TestCompareIsZeroForEqualAddressesAlone(t *testing.T) {
	for i, a := range samples(t) {
		for j, b := range samples(t) {
			if got := Compare(a, b); (got == 0) != (i == j) || got != -Compare(b, a) {
				t.Errorf("Compare(%v, %v) = %d, and exchanged %d", a, b, got, Compare(b, a))
			}
		}
	}
}

// P7.1: Unmap

func TestUnmapMapped(t *testing.T) {
	for _, b := range [][4]byte{{0, 0, 0, 0}, {10, 0, 0, 1}, {1, 2, 3, 4}, {255, 255, 255, 255}, {0, 0, 0, 1}, {127, 0, 0, 1}} {
		a := api.Addr{IPv6: true, Bytes: [16]byte{10: 0xff, 11: 0xff, 12: b[0], 13: b[1], 14: b[2], 15: b[3]}}
		want := api.Addr{Bytes: [16]byte{b[0], b[1], b[2], b[3]}}
		if got := Unmap(a); got != want {
			t.Errorf("Unmap(%v) = %v, want %v", a, got, want)
		}
	}
}

func TestUnmapOthers(t *testing.T) {
	mapped := six(t, 0, 0, 0, 0, 0, 0xffff, 0xa00, 1)
	for bit := range 96 { // nearly mapped: one bit of the first twelve bytes is wrong
		a := mapped
		a.Bytes[bit/8] ^= 1 << (bit % 8)
		if got := Unmap(a); got != a {
			t.Errorf("Unmap(%v) = %v", a, got)
		}
	}
	others := []api.Addr{
		six(t, 0, 0, 0, 0, 0, 0, 0xa00, 1),
		six(t, 0, 0, 0, 0, 0xffff, 0, 0xa00, 1),
		six(t, 0, 0, 0, 0, 0, 0, 0xffff, 0xa00),
		six(t, 0x64, 0xff9b, 0, 0, 0, 0, 0xa00, 1),
		{Bytes: mapped.Bytes}, // IPv4, and not valid
		{Bytes: [16]byte{10: 0xff, 11: 0xff}},
	}
	for _, a := range samples(t) {
		if a != mapped {
			others = append(others, a)
		}
	}
	for _, a := range others {
		if got := Unmap(a); got != a {
			t.Errorf("Unmap(%v) = %v", a, got)
		}
	}
}

// The section "Examples" of the chapter.

func TestExamples(t *testing.T) {
	if got := Format(six(t, 0x2001, 0xdb8, 0, 0, 1, 0, 0, 1)); got != "2001:db8::1:0:0:1" {
		t.Errorf("example 1: %q", got)
	}
	a, ok := Parse("::ffff:10.0.0.1")
	if !ok || Format(a) != "::ffff:a00:1" || Unmap(a) != V4(10, 0, 0, 1) {
		t.Errorf("example 2: %v, %v, unmapped %v", a, ok, Unmap(a))
	}
	for _, s := range []string{"1::2::3", "01.2.3.4"} {
		if a, ok := Parse(s); ok || a != (api.Addr{}) {
			t.Errorf("example 3: Parse(%q) = %v, %v", s, a, ok)
		}
	}
}
