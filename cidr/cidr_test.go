package cidr

import (
	"fmt"
	"math"
	"strings"
	"testing"

	"ginnel/api"
	"ginnel/ip"
)

// The model knows an address by its bits, written as a string of 128 digits 0 and 1.

func digitsOf(a api.Addr) string {
	s := ""
	for _, b := range a.Bytes {
		s += fmt.Sprintf("%08b", b)
	}
	return s
}

// addrOf returns the address with the given bits, and zeros behind them.
func addrOf(v6 bool, digits string) api.Addr {
	a := api.Addr{IPv6: v6}
	for i := range len(digits) {
		if digits[i] == '1' {
			a.Bytes[i/8] += []byte{128, 64, 32, 16, 8, 4, 2, 1}[i%8]
		}
	}
	return a
}

func sizeOf(v6 bool) int {
	if v6 {
		return 128
	}
	return 32
}

func modelAddrValid(a api.Addr) bool {
	return a.IPv6 || !strings.Contains(digitsOf(a)[32:], "1")
}

func modelValid(p api.Prefix) bool {
	return modelAddrValid(p.Addr) && p.Bits >= 0 && p.Bits <= sizeOf(p.Addr.IPv6) && !strings.Contains(digitsOf(p.Addr)[p.Bits:], "1")
}

func modelPrefixOf(a api.Addr, bits int) (api.Prefix, bool) {
	if !modelAddrValid(a) || bits < 0 || bits > sizeOf(a.IPv6) {
		return api.Prefix{}, false
	}
	return api.Prefix{Addr: addrOf(a.IPv6, digitsOf(a)[:bits]), Bits: bits}, true
}

func modelContains(p api.Prefix, a api.Addr) bool {
	return modelValid(p) && modelAddrValid(a) && p.Addr.IPv6 == a.IPv6 && strings.HasPrefix(digitsOf(a), digitsOf(p.Addr)[:p.Bits])
}

func modelCovers(p, q api.Prefix) bool {
	return modelValid(p) && modelValid(q) && q.Bits >= p.Bits && modelContains(p, q.Addr)
}

func addr(t *testing.T, s string) api.Addr {
	t.Helper()
	a, ok := ip.Parse(s)
	if !ok {
		t.Fatalf("%q is no address", s)
	}
	return a
}

// prefix returns the prefix of that address and length, whether it is valid or not.
func prefix(t *testing.T, s string, bits int) api.Prefix {
	t.Helper()
	return api.Prefix{Addr: addr(t, s), Bits: bits}
}

// oddBits are lengths that no prefix has.
var oddBits = []int{math.MinInt, math.MinInt32, -1 << 8, -129, -128, -32, -8, -2, -1, 129, 130, 136, 255, 256, 1 << 31, 1<<32 + 8, math.MaxInt}

// addrs returns addresses of both families whose bits differ in various places.
func addrs(t *testing.T) []api.Addr {
	t.Helper()
	var l []api.Addr
	for _, s := range []string{
		"0.0.0.0", "0.0.0.1", "10.0.0.0", "10.1.2.3", "10.1.2.255", "10.128.0.0", "127.255.255.255", "128.0.0.0", "192.0.2.33", "255.255.255.255",
		"::", "::1", "::ffff:10.1.2.3", "a01:203::", "2001:db8::1:0:0:1", "2001:db8:ffff::1", "8000::", "fe80::1", "febf::1", "fec0::1", "ffff:ffff:ffff:ffff:ffff:ffff:ffff:ffff",
	} {
		l = append(l, addr(t, s))
	}
	return l
}

// badAddrs returns IPv4 addresses that are not valid.
func badAddrs() []api.Addr {
	var l []api.Addr
	for i := 4; i < 16; i++ {
		for _, x := range []byte{1, 128, 255} {
			a, b := api.Addr{}, ip.V4(10, 0, 0, 0)
			a.Bytes[i], b.Bytes[i] = x, x
			l = append(l, a, b)
		}
	}
	return l
}

// lengths are those at which the prefixes of the samples are cut.
var lengths = []int{0, 1, 7, 8, 9, 15, 16, 17, 24, 31, 32, 33, 63, 64, 65, 96, 127, 128}

// prefixes returns valid prefixes of both families: each address, cut at various lengths.
func prefixes(t *testing.T) []api.Prefix {
	t.Helper()
	var l []api.Prefix
	for _, a := range addrs(t) {
		for _, bits := range lengths {
			if p, ok := modelPrefixOf(a, bits); ok {
				l = append(l, p)
			}
		}
	}
	return l
}

// badPrefixes returns prefixes that are not valid, for each of the reasons that there are.
func badPrefixes(t *testing.T) []api.Prefix {
	t.Helper()
	var l []api.Prefix
	for _, a := range badAddrs() {
		l = append(l, api.Prefix{Addr: a}, api.Prefix{Addr: a, Bits: 8}, api.Prefix{Addr: a, Bits: 32}, api.Prefix{Addr: a, Bits: 128})
	}
	for _, a := range addrs(t) {
		for _, bits := range oddBits {
			l = append(l, api.Prefix{Addr: a, Bits: bits})
		}
		for _, bits := range lengths { // bits that are set behind the prefix, or a length that the family does not have
			if p := (api.Prefix{Addr: a, Bits: bits}); !modelValid(p) {
				l = append(l, p)
			}
		}
	}
	return l
}

// P9.1: Valid

func wantValid(t *testing.T, p api.Prefix, want bool) {
	t.Helper()
	if got := Valid(p); got != want {
		t.Errorf("Valid(%v) = %v, want %v", p, got, want)
	}
}

func TestValidOrdinary(t *testing.T) {
	for _, p := range []api.Prefix{
		{}, prefix(t, "10.0.0.0", 8), prefix(t, "10.0.0.0", 7), prefix(t, "10.0.0.0", 32), prefix(t, "10.1.2.3", 32), prefix(t, "128.0.0.0", 1), prefix(t, "255.255.255.254", 31),
		prefix(t, "::", 0), prefix(t, "::", 128), prefix(t, "::1", 128), prefix(t, "2001:db8::", 29), prefix(t, "fe80::", 10), prefix(t, "8000::", 1),
	} {
		wantValid(t, p, true)
	}
	for _, p := range []api.Prefix{
		prefix(t, "10.0.0.0", 6), prefix(t, "10.0.0.1", 8), prefix(t, "10.1.2.3", 31), prefix(t, "128.0.0.0", 0), prefix(t, "0.0.0.0", 33), prefix(t, "0.0.0.0", -1), prefix(t, "0.0.0.0", 128),
		prefix(t, "::1", 127), prefix(t, "::1", 0), prefix(t, "2001:db8::", 28), prefix(t, "fe80::", 8), prefix(t, "::", 129), prefix(t, "::", -1),
	} {
		wantValid(t, p, false)
	}
}

// A prefix whose first n bits are set, and no others, is valid from length n up to the length of the address.
func TestValidOfLeadingOnes(t *testing.T) {
	for _, v6 := range []bool{false, true} {
		size := sizeOf(v6)
		for n := range size + 1 {
			a := addrOf(v6, strings.Repeat("1", n))
			for bits := -9; bits < 140; bits++ {
				wantValid(t, api.Prefix{Addr: a, Bits: bits}, n <= bits && bits <= size)
			}
		}
	}
}

// A prefix of which one bit alone is set is valid if that bit is one of its first: not if it stands just behind them or at the very end.
func TestValidOfSingleBits(t *testing.T) {
	for _, v6 := range []bool{false, true} {
		size := sizeOf(v6)
		for set := range 128 { // from bit 32 on, no IPv4 address is valid
			a := addrOf(v6, strings.Repeat("0", set)+"1")
			for bits := -9; bits < 140; bits++ {
				wantValid(t, api.Prefix{Addr: a, Bits: bits}, set < bits && bits <= size)
			}
		}
	}
}

func TestValidOfInvalidAddresses(t *testing.T) {
	for _, a := range badAddrs() {
		for bits := -9; bits < 140; bits++ {
			wantValid(t, api.Prefix{Addr: a, Bits: bits}, false)
		}
	}
}

func TestValidOfOddLengths(t *testing.T) {
	for _, bits := range oddBits {
		for _, a := range addrs(t) {
			wantValid(t, api.Prefix{Addr: a, Bits: bits}, false)
		}
	}
	for bits := 33; bits <= 128; bits++ {
		wantValid(t, prefix(t, "0.0.0.0", bits), false)
		wantValid(t, prefix(t, "::", bits), true)
	}
}

func TestValidOfSamples(t *testing.T) {
	for _, p := range prefixes(t) {
		wantValid(t, p, true)
	}
	for _, p := range badPrefixes(t) {
		wantValid(t, p, false)
	}
}

// P9.1: PrefixOf

func wantPrefixOf(t *testing.T, a api.Addr, bits int, want api.Prefix) {
	t.Helper()
	if got, ok := PrefixOf(a, bits); got != want || !ok {
		t.Errorf("PrefixOf(%v, %d) = %v, %v, want %v, true", a, bits, got, ok, want)
	}
}

func wantNoPrefixOf(t *testing.T, a api.Addr, bits int) {
	t.Helper()
	if got, ok := PrefixOf(a, bits); got != (api.Prefix{}) || ok {
		t.Errorf("PrefixOf(%v, %d) = %v, %v, want a zero prefix and false", a, bits, got, ok)
	}
}

func TestPrefixOfOrdinary(t *testing.T) {
	for _, c := range []struct {
		a    string
		bits int
		want string
	}{
		{"10.1.2.3", 0, "0.0.0.0"}, {"10.1.2.3", 8, "10.0.0.0"}, {"10.1.2.3", 15, "10.0.0.0"}, {"10.1.2.3", 16, "10.1.0.0"}, {"10.1.2.3", 31, "10.1.2.2"}, {"10.1.2.3", 32, "10.1.2.3"},
		{"255.255.255.255", 1, "128.0.0.0"}, {"255.255.255.255", 9, "255.128.0.0"}, {"255.255.255.255", 30, "255.255.255.252"},
		{"2001:db8:ffff::1", 0, "::"}, {"2001:db8:ffff::1", 1, "::"}, {"2001:db8:ffff::1", 3, "2000::"}, {"2001:db8:ffff::1", 32, "2001:db8::"}, {"2001:db8:ffff::1", 33, "2001:db8:8000::"},
		{"2001:db8:ffff::1", 127, "2001:db8:ffff::"}, {"2001:db8:ffff::1", 128, "2001:db8:ffff::1"}, {"::ffff:10.1.2.3", 96, "::ffff:0.0.0.0"}, {"febf::1", 10, "fe80::"},
	} {
		wantPrefixOf(t, addr(t, c.a), c.bits, prefix(t, c.want, c.bits))
	}
}

func TestPrefixOfEveryLength(t *testing.T) {
	for _, a := range addrs(t) {
		for bits := -9; bits < 140; bits++ {
			if want, ok := modelPrefixOf(a, bits); ok {
				wantPrefixOf(t, a, bits, want)
			} else {
				wantNoPrefixOf(t, a, bits)
			}
		}
	}
}

func TestPrefixOfOddLengths(t *testing.T) {
	four, six := addr(t, "10.1.2.3"), addr(t, "2001:db8::1")
	for _, bits := range []int{-1, 33, 128, 129} {
		wantNoPrefixOf(t, four, bits)
	}
	for _, bits := range []int{-1, 129} {
		wantNoPrefixOf(t, six, bits)
	}
	wantPrefixOf(t, six, 33, prefix(t, "2001:db8::", 33))
	wantPrefixOf(t, six, 128, api.Prefix{Addr: six, Bits: 128})
	for _, bits := range oddBits {
		for _, a := range addrs(t) {
			wantNoPrefixOf(t, a, bits)
		}
	}
}

func TestPrefixOfInvalidAddresses(t *testing.T) {
	for _, a := range badAddrs() {
		for bits := -9; bits < 140; bits++ {
			wantNoPrefixOf(t, a, bits)
		}
	}
}

// PrefixOf returns the prefix that contains the address: a valid one, of that length.
func TestPrefixOfContainsTheAddress(t *testing.T) {
	for _, a := range addrs(t) {
		for bits := range sizeOf(a.IPv6) + 1 {
			p, ok := PrefixOf(a, bits)
			if !ok || p.Bits != bits || !Valid(p) || !Contains(p, a) {
				t.Errorf("PrefixOf(%v, %d) = %v, %v", a, bits, p, ok)
			}
		}
	}
}

// P9.1: Contains

func wantContains(t *testing.T, p api.Prefix, a api.Addr, want bool) {
	t.Helper()
	if got := Contains(p, a); got != want {
		t.Errorf("Contains(%v, %v) = %v, want %v", p, a, got, want)
	}
}

func TestContainsOrdinary(t *testing.T) {
	for _, c := range []struct {
		p    string
		bits int
		a    string
		want bool
	}{
		{"10.0.0.0", 8, "10.0.0.0", true}, {"10.0.0.0", 8, "10.255.255.255", true}, {"10.0.0.0", 8, "11.0.0.0", false}, {"10.0.0.0", 8, "9.255.255.255", false}, {"10.0.0.0", 7, "11.0.0.0", true},
		{"0.0.0.0", 0, "0.0.0.0", true}, {"0.0.0.0", 0, "255.255.255.255", true}, {"10.1.2.3", 32, "10.1.2.3", true}, {"10.1.2.3", 32, "10.1.2.2", false}, {"10.1.2.2", 31, "10.1.2.3", true},
		{"::", 0, "::", true}, {"::", 0, "ffff:ffff:ffff:ffff:ffff:ffff:ffff:ffff", true}, {"::1", 128, "::1", true}, {"::1", 128, "::", false}, {"::1", 128, "::2", false}, {"::", 127, "::1", true},
		{"fe80::", 10, "febf::1", true}, {"fe80::", 10, "fec0::1", false}, {"::ffff:0.0.0.0", 96, "::ffff:1.2.3.4", true},
	} {
		wantContains(t, prefix(t, c.p, c.bits), addr(t, c.a), c.want)
	}
}

// An address that differs in one bit from one within the prefix is outside if that bit is one of the first, up to the last of them, and within from the first bit behind them on.
func TestContainsWithOneBitChanged(t *testing.T) {
	for _, a := range addrs(t) {
		size := sizeOf(a.IPv6)
		for bits := range size + 1 {
			p, _ := modelPrefixOf(a, bits)
			wantContains(t, p, a, true)
			for i := range size {
				b := a
				b.Bytes[i/8] ^= []byte{128, 64, 32, 16, 8, 4, 2, 1}[i%8]
				wantContains(t, p, b, i >= bits)
			}
		}
	}
}

// An address of the other family is not contained, although its bits agree.
func TestContainsOfTheOtherFamily(t *testing.T) {
	for _, a := range addrs(t) {
		for bits := range 33 {
			four, six := api.Addr{Bytes: a.Bytes}, api.Addr{IPv6: true, Bytes: a.Bytes}
			if p, ok := modelPrefixOf(four, bits); ok {
				wantContains(t, p, six, false)
				wantContains(t, p, four, true)
			}
			if p, ok := modelPrefixOf(six, bits); ok {
				wantContains(t, p, four, false)
				wantContains(t, p, six, true)
			}
		}
	}
	wantContains(t, prefix(t, "0.0.0.0", 0), addr(t, "::"), false)
	wantContains(t, prefix(t, "0.0.0.0", 0), addr(t, "::ffff:1.2.3.4"), false)
	wantContains(t, prefix(t, "::ffff:0.0.0.0", 96), addr(t, "1.2.3.4"), false)
	wantContains(t, prefix(t, "0.0.0.0", 32), addr(t, "::"), false)
	wantContains(t, prefix(t, "::", 128), addr(t, "0.0.0.0"), false)
}

func TestContainsWithInvalidArguments(t *testing.T) {
	for _, p := range badPrefixes(t) {
		wantContains(t, p, p.Addr, false)
		for _, a := range addrs(t) {
			wantContains(t, p, a, false)
		}
	}
	for _, a := range badAddrs() {
		wantContains(t, prefix(t, "0.0.0.0", 0), a, false)
		wantContains(t, prefix(t, "10.0.0.0", 8), a, false)
		wantContains(t, prefix(t, "10.0.0.0", 32), a, false)
		wantContains(t, prefix(t, "::", 0), a, false)
		wantContains(t, api.Prefix{Addr: a, Bits: 32}, a, false)
	}
}

func TestContainsAgainstModel(t *testing.T) {
	for _, p := range append(prefixes(t), badPrefixes(t)...) {
		for _, a := range append(addrs(t), badAddrs()...) {
			wantContains(t, p, a, modelContains(p, a))
		}
	}
}

// P9.1: Covers

func wantCovers(t *testing.T, p, q api.Prefix, want bool) {
	t.Helper()
	if got := Covers(p, q); got != want {
		t.Errorf("Covers(%v, %v) = %v, want %v", p, q, got, want)
	}
}

func TestCoversOrdinary(t *testing.T) {
	for _, c := range []struct {
		p     string
		pBits int
		q     string
		qBits int
		want  bool
	}{
		{"10.0.0.0", 8, "10.0.0.0", 8, true}, {"10.0.0.0", 8, "10.1.0.0", 16, true}, {"10.0.0.0", 8, "10.0.0.0", 9, true}, {"10.0.0.0", 8, "10.0.0.0", 7, false}, {"10.0.0.0", 8, "10.0.0.0", 32, true},
		{"10.1.0.0", 16, "10.0.0.0", 8, false}, {"10.0.0.0", 16, "10.0.0.0", 8, false}, {"10.0.0.0", 8, "11.0.0.0", 8, false}, {"10.0.0.0", 8, "11.0.0.0", 16, false}, {"10.0.0.0", 7, "11.0.0.0", 8, true},
		{"0.0.0.0", 0, "0.0.0.0", 0, true}, {"0.0.0.0", 0, "10.1.2.3", 32, true}, {"10.1.2.3", 32, "10.1.2.3", 32, true}, {"10.1.2.3", 32, "0.0.0.0", 0, false}, {"0.0.0.0", 1, "0.0.0.0", 0, false},
		{"::", 0, "::1", 128, true}, {"::", 0, "::", 0, true}, {"::1", 128, "::", 0, false}, {"fe80::", 10, "fe80::", 64, true}, {"fe80::", 10, "fec0::", 10, false}, {"fe80::", 10, "fe80::", 10, true},
		{"::", 0, "10.0.0.0", 8, false}, {"0.0.0.0", 0, "::", 0, false}, {"0.0.0.0", 0, "::", 96, false}, {"::ffff:0.0.0.0", 96, "10.0.0.0", 8, false}, {"::", 0, "0.0.0.0", 0, false},
	} {
		wantCovers(t, prefix(t, c.p, c.pBits), prefix(t, c.q, c.qBits), c.want)
	}
}

// Of two prefixes of one address, the shorter covers the longer, and each covers itself.
func TestCoversOfEveryLength(t *testing.T) {
	for _, a := range addrs(t) {
		for m := range sizeOf(a.IPv6) + 1 {
			for n := range sizeOf(a.IPv6) + 1 {
				p, _ := modelPrefixOf(a, m)
				q, _ := modelPrefixOf(a, n)
				wantCovers(t, p, q, m <= n)
			}
		}
	}
}

func TestCoversWithInvalidArguments(t *testing.T) {
	good := []api.Prefix{prefix(t, "0.0.0.0", 0), prefix(t, "10.0.0.0", 8), prefix(t, "10.1.2.3", 32), prefix(t, "::", 0), prefix(t, "fe80::", 10), prefix(t, "::1", 128)}
	for _, bad := range badPrefixes(t) {
		wantCovers(t, bad, bad, false)
		for _, p := range good {
			wantCovers(t, p, bad, false)
			wantCovers(t, bad, p, false)
		}
	}
	wantCovers(t, prefix(t, "10.0.0.0", 8), prefix(t, "10.1.0.1", 16), false)  // a bit behind the prefix
	wantCovers(t, prefix(t, "10.0.0.0", 8), prefix(t, "10.1.0.0", 33), false)  // too long for its family
	wantCovers(t, prefix(t, "10.0.0.1", 8), prefix(t, "10.0.0.1", 32), false)  // the first one has a bit behind it
	wantCovers(t, prefix(t, "0.0.0.0", -1), prefix(t, "0.0.0.0", 0), false)    // shorter than empty
	wantCovers(t, prefix(t, "10.1.2.3", 33), prefix(t, "10.1.2.3", 33), false) // equal, and both too long
}

func TestCoversAgainstModel(t *testing.T) {
	l := prefixes(t)
	for _, p := range l {
		for _, q := range l {
			wantCovers(t, p, q, modelCovers(p, q))
		}
	}
}

// P9.1: Compare

func wantLess(t *testing.T, p, q api.Prefix) {
	t.Helper()
	if x, y := Compare(p, q), Compare(q, p); x != -1 || y != 1 {
		t.Errorf("Compare of %v and %v = %d, and exchanged %d, want -1 and 1", p, q, x, y)
	}
}

func TestCompareOrdinary(t *testing.T) {
	wantLess(t, prefix(t, "10.0.0.0", 8), prefix(t, "10.0.0.0", 16)) // Bits alone
	wantLess(t, prefix(t, "::", 0), prefix(t, "::", 128))
	wantLess(t, prefix(t, "10.0.0.0", 8), prefix(t, "11.0.0.0", 8)) // the address alone
	wantLess(t, prefix(t, "::", 128), prefix(t, "::1", 128))
	wantLess(t, prefix(t, "10.0.0.0", 16), prefix(t, "11.0.0.0", 8)) // the address comes before Bits
	wantLess(t, prefix(t, "::", 128), prefix(t, "8000::", 1))
	wantLess(t, prefix(t, "255.255.255.255", 32), prefix(t, "::", 0)) // IPv4 comes first
	wantLess(t, prefix(t, "0.0.0.0", 0), prefix(t, "::", 0))
	for _, p := range append(prefixes(t), badPrefixes(t)...) { // nothing
		if got := Compare(p, p); got != 0 {
			t.Errorf("Compare of %v with itself = %d, want 0", p, got)
		}
	}
}

// The difference of extreme lengths is no int, and prefixes that are not valid are ordered all the same.
func TestCompareOfOddLengths(t *testing.T) {
	for _, a := range append(addrs(t), badAddrs()...) {
		for i, m := range oddBits { // ascending
			for _, n := range oddBits[i+1:] {
				wantLess(t, api.Prefix{Addr: a, Bits: m}, api.Prefix{Addr: a, Bits: n})
			}
		}
	}
}

func modelCompare(p, q api.Prefix) int {
	switch c := ip.Compare(p.Addr, q.Addr); {
	case c < 0 || c == 0 && p.Bits < q.Bits:
		return -1
	case c > 0 || c == 0 && p.Bits > q.Bits:
		return 1
	default:
		return 0
	}
}

func TestCompareAgainstModel(t *testing.T) {
	l := prefixes(t)
	for _, p := range badPrefixes(t) {
		if p.Bits == 8 || p.Bits == math.MinInt {
			l = append(l, p)
		}
	}
	for _, p := range l {
		for _, q := range l {
			want := modelCompare(p, q)
			if got := Compare(p, q); got != want || (got == 0) != (p == q) {
				t.Errorf("Compare(%v, %v) = %d, want %d", p, q, got, want)
			}
		}
	}
}

// Consequences: an address that is contained in a prefix is contained in every prefix that covers it

func TestCoveringPrefixesContainTheAddresses(t *testing.T) {
	l, held := prefixes(t), 0
	for _, p := range l {
		for _, q := range l {
			if !Covers(p, q) {
				continue
			}
			for _, a := range addrs(t) {
				if !Contains(q, a) {
					continue
				}
				held++
				if !Contains(p, a) {
					t.Errorf("%v covers %v, which contains %v, but does not contain it", p, q, a)
				}
			}
		}
	}
	if held < len(l) {
		t.Errorf("the samples have %d cases", held)
	}
}

// Examples 1 and 3

func TestExamples(t *testing.T) {
	wantPrefixOf(t, ip.V4(10, 1, 2, 3), 8, prefix(t, "10.0.0.0", 8))
	wantContains(t, prefix(t, "::", 0), ip.V4(1, 2, 3, 4), false)
}
