package acl

import (
	"math"
	"slices"
	"strings"
	"testing"

	"ginnel/api"
	"ginnel/cidr"
	"ginnel/ip"
)

func addr(t *testing.T, s string) api.Addr {
	t.Helper()
	a, ok := ip.Parse(s)
	if !ok {
		t.Fatalf("%q is no address", s)
	}
	return a
}

func prefix(t *testing.T, s string) api.Prefix {
	t.Helper()
	p, ok := cidr.Parse(s)
	if !ok {
		t.Fatalf("%q is no prefix", s)
	}
	return p
}

// addrRule returns a rule for addresses, nameRule one for names. Both are for the ports from low to high.
func addrRule(t *testing.T, allow bool, network string, low, high int) api.Rule {
	t.Helper()
	return api.Rule{Allow: allow, Prefix: prefix(t, network), PortMin: low, PortMax: high}
}

func nameRule(allow bool, suffix string, low, high int) api.Rule {
	return api.Rule{Allow: allow, Suffix: suffix, PortMin: low, PortMax: high}
}

// build returns the access control list with the given rules, which are valid.
func build(t *testing.T, l ...api.Rule) *ACL {
	t.Helper()
	x, e := New(l)
	if x == nil || e != api.OK {
		t.Fatalf("New(%#v) = %v, %v", l, x, e)
	}
	return x
}

// wantInvalid checks that New rejects the rules.
func wantInvalid(t *testing.T, l []api.Rule) {
	t.Helper()
	if x, e := New(l); x != nil || e != api.ErrInvalid {
		t.Fatalf("New of %d rules returns %v, want ErrInvalid and no list; the last rule is %#v", len(l), e, l[len(l)-1])
	}
}

// wantValidRule holds ValidRule against want, and New of a list with this rule, too. The field Allow makes no difference.
func wantValidRule(t *testing.T, r api.Rule, want bool) {
	t.Helper()
	for _, r.Allow = range []bool{false, true} {
		if got := ValidRule(r); got != want {
			t.Errorf("ValidRule(%#v) = %v, want %v", r, got, want)
		}
		if want {
			build(t, r)
		} else {
			wantInvalid(t, []api.Rule{r})
		}
	}
}

// nameOfSize returns a name of n bytes, from 1 to 254, which is a host name but for its size if n is 254.
func nameOfSize(n int) string {
	s := strings.Repeat(strings.Repeat("a", 63)+".", 4)[:n]
	if s[n-1] == '.' {
		s = s[:n-2] + ".a"
	}
	return s
}

func goodNames() []string {
	return []string{"a", "a.b", "www.example.org", "1.a", "a-b.c", "xn--a", "1a", strings.Repeat("a", 63), strings.Repeat("a.", 126) + "a", nameOfSize(api.MaxName)}
}

// badNames returns strings that are not empty and that are no host names.
func badNames() []string {
	return []string{".", "A", "a.B", "A.b", "a.", ".a", ".a.b", "a..b", "-a", "a-", "a.-b", "1", "a.1", "1.2.3.4", "::1", "[::1]", "*", "*.a", "a_b", "a b", " a", "a ", "a:1", "a/8", "10.0.0.0/8", "\u00e9", "\u212a", "\x00", "\xff", strings.Repeat("a", 64), nameOfSize(api.MaxName + 1), strings.Repeat("a.", 127) + "a"}
}

// goodPrefixes returns valid prefixes other than the zero value.
func goodPrefixes(t *testing.T) []api.Prefix {
	t.Helper()
	var l []api.Prefix
	for _, s := range []string{"0.0.0.0/1", "0.0.0.0/8", "0.0.0.0/32", "128.0.0.0/1", "8.0.0.0/8", "8.8.0.0/16", "8.8.8.8/31", "8.8.8.8/32", "255.255.255.255/32", "::/0", "::/1", "::/128", "2001:db8::/32", "2001:db8::/33", "2001:db8::1/128", "::ffff:0:0/96"} {
		l = append(l, prefix(t, s))
	}
	return l
}

func badPrefixes(t *testing.T) []api.Prefix {
	t.Helper()
	v4, v6 := addr(t, "8.8.0.0"), addr(t, "2001:db8::")
	last := api.Addr{Bytes: [16]byte{15: 1}}
	fifth := api.Addr{Bytes: [16]byte{8, 8, 0, 0, 1}}
	return []api.Prefix{
		{Bits: -1}, {Bits: 33}, {Bits: 128}, {Bits: math.MinInt}, {Bits: math.MaxInt},
		{Addr: api.Addr{IPv6: true}, Bits: -1}, {Addr: api.Addr{IPv6: true}, Bits: 129}, {Addr: api.Addr{IPv6: true}, Bits: math.MinInt}, {Addr: api.Addr{IPv6: true}, Bits: math.MaxInt},
		{Addr: v4}, {Addr: v4, Bits: -1}, {Addr: v4, Bits: 8}, {Addr: v4, Bits: 12}, {Addr: v4, Bits: 33},
		{Addr: v6}, {Addr: v6, Bits: 28}, {Addr: v6, Bits: -1}, {Addr: v6, Bits: 129},
		{Addr: last}, {Addr: last, Bits: 32}, {Addr: last, Bits: 128}, {Addr: fifth, Bits: 16}, {Addr: fifth, Bits: 32},
	}
}

// portRanges returns ranges at and just outside of each bound, and whether they are valid.
func portRanges() map[[2]int]bool {
	return map[[2]int]bool{
		{0, 0}: true, {0, 1}: true, {1, 1}: true, {0, 65535}: true, {1, 65535}: true, {65534, 65535}: true, {65535, 65535}: true, {80, 80}: true, {80, 81}: true, {80, 443}: true,
		{-1, -1}: false, {-1, 0}: false, {-1, 80}: false, {-1, 65535}: false, {-80, 80}: false, {math.MinInt, 80}: false, {math.MinInt, math.MinInt}: false,
		{0, 65536}: false, {80, 65536}: false, {65535, 65536}: false, {65536, 65536}: false, {80, math.MaxInt}: false, {math.MaxInt, math.MaxInt}: false,
		{1, 0}: false, {81, 80}: false, {443, 80}: false, {65535, 0}: false, {65535, 65534}: false, {65536, 65535}: false, {65536, 0}: false,
		{0, -1}: false, {80, -1}: false, {-1, -2}: false, {-1, 65536}: false, {math.MinInt, math.MaxInt}: false, {math.MaxInt, math.MinInt}: false, {0, math.MinInt}: false, {math.MaxInt, 0}: false,
	}
}

// P12.1: ValidRule

func TestPortRanges(t *testing.T) {
	for ports, want := range portRanges() {
		wantValidRule(t, addrRule(t, true, "8.0.0.0/8", ports[0], ports[1]), want)
		wantValidRule(t, addrRule(t, true, "2001:db8::/32", ports[0], ports[1]), want)
		wantValidRule(t, nameRule(true, "a.b", ports[0], ports[1]), want)
		wantValidRule(t, api.Rule{PortMin: ports[0], PortMax: ports[1]}, want)
	}
}

func TestManyPortRanges(t *testing.T) {
	ports := []int{-65536, -65535, -2, -1, 0, 1, 2, 79, 80, 81, 1<<15 - 1, 1 << 15, 65534, 65535, 65536, 65537, 1 << 17, 1<<32 + 80, -1<<32 + 80}
	for _, low := range ports {
		for _, high := range ports {
			want := low >= 0 && high >= low && high <= 65535
			wantValidRule(t, addrRule(t, true, "8.0.0.0/8", low, high), want)
			wantValidRule(t, nameRule(true, "a.b", low, high), want)
		}
	}
}

func TestNameRules(t *testing.T) {
	for _, s := range goodNames() {
		wantValidRule(t, api.Rule{Suffix: s, PortMax: 80}, true)
	}
	for _, s := range badNames() {
		wantValidRule(t, api.Rule{Suffix: s, PortMax: 80}, false)
	}
}

// A rule with neither a suffix nor a prefix is one for 0.0.0.0/0, because its prefix is the zero value.
func TestAddrRules(t *testing.T) {
	wantValidRule(t, api.Rule{}, true)
	wantValidRule(t, api.Rule{PortMin: 80, PortMax: 80}, true)
	for _, p := range goodPrefixes(t) {
		wantValidRule(t, api.Rule{Prefix: p, PortMax: 80}, true)
	}
	for _, p := range badPrefixes(t) {
		wantValidRule(t, api.Rule{Prefix: p, PortMax: 80}, false)
	}
}

// Neither part makes up for the other one.
func TestRulesWithSuffixAndPrefix(t *testing.T) {
	for _, s := range append(goodNames(), badNames()...) {
		for _, p := range append(goodPrefixes(t), badPrefixes(t)...) {
			wantValidRule(t, api.Rule{Suffix: s, Prefix: p, PortMax: 80}, false)
		}
	}
}

// P12.1: New

func TestNumberOfRules(t *testing.T) {
	build(t)
	for _, r := range []api.Rule{{}, addrRule(t, true, "8.0.0.0/8", 80, 80), nameRule(true, "a.b", 80, 80)} {
		for n := range api.MaxRules + 1 {
			build(t, slices.Repeat([]api.Rule{r}, n)...)
		}
		for _, n := range []int{api.MaxRules + 1, api.MaxRules + 2, 2 * api.MaxRules, 1 << 16} {
			wantInvalid(t, slices.Repeat([]api.Rule{r}, n))
		}
	}
	build(t, []api.Rule{}...)
}

// One rule that is not valid is enough, at every place of a list of every length.
func TestOneInvalidRule(t *testing.T) {
	for _, bad := range []api.Rule{
		{PortMin: 1}, {PortMin: -1}, {PortMax: 65536}, {Suffix: "A"}, {Prefix: api.Prefix{Bits: 33}}, {Suffix: "a", Prefix: prefix(t, "8.0.0.0/8")},
	} {
		for n := 1; n <= api.MaxRules+1; n++ {
			for i := range n {
				l := make([]api.Rule, n)
				for j := range l {
					l[j] = []api.Rule{{}, nameRule(true, "a.b", 0, 80)}[j%2]
				}
				l[i] = bad
				wantInvalid(t, l)
			}
		}
	}
	wantInvalid(t, slices.Repeat([]api.Rule{{PortMin: 1}}, api.MaxRules))
}

// Each of the greatest number of rules is there.
func TestEveryRuleCounts(t *testing.T) {
	var l []api.Rule
	for i := range api.MaxRules / 2 {
		label := string(rune('a' + i))
		l = append(l, api.Rule{Allow: i%2 == 0, Prefix: api.Prefix{Addr: ip.V4(20, byte(i), 0, 0), Bits: 16}, PortMin: i, PortMax: i + 1}, nameRule(i%2 == 1, label+".org", i, i+1))
	}
	x := build(t, l...)
	for i := range api.MaxRules / 2 {
		a, name := ip.V4(20, byte(i), 1, 1), "www."+string(rune('a'+i))+".org"
		wantAddr(t, x, a, i, 2*i, i%2 == 0)
		wantAddr(t, x, a, i+1, 2*i, i%2 == 0)
		wantAddr(t, x, a, i+2, -1, false)
		wantName(t, x, name, i, 2*i+1, i%2 == 1)
		wantName(t, x, name, i+1, 2*i+1, i%2 == 1)
		wantName(t, x, name, i+2, -1, true)
	}
}

// R3: New changes neither the rules nor the memory behind them.
func TestRulesAreNotChanged(t *testing.T) {
	l := []api.Rule{nameRule(true, "b", 0, 80), addrRule(t, true, "::/0", 0, 80), addrRule(t, false, "8.8.0.0/16", 0, 80), nameRule(false, "a.b", 0, 80), addrRule(t, true, "8.0.0.0/8", 0, 80), {PortMin: 1}, {Suffix: "A"}}
	for n := range len(l) + 1 {
		before := slices.Clone(l)
		New(l[:n])
		if !slices.Equal(l, before) {
			t.Fatalf("New of the first %d rules changed them, or the others, to %v", n, l)
		}
	}
}

// R3: an access control list has a copy of its rules.
func TestRulesAreCopied(t *testing.T) {
	l := []api.Rule{addrRule(t, true, "8.0.0.0/8", 443, 443), nameRule(false, "a.b", 0, 80), addrRule(t, false, "8.8.0.0/16", 0, 65535), nameRule(true, "x.a.b", 80, 80)}
	first := build(t, l...)
	check := func() {
		t.Helper()
		wantAddr(t, first, addr(t, "8.1.1.1"), 443, 0, true)
		wantAddr(t, first, addr(t, "8.1.1.1"), 80, -1, false)
		wantAddr(t, first, addr(t, "8.8.1.1"), 443, 2, false)
		wantAddr(t, first, addr(t, "9.1.1.1"), 443, -1, false)
		wantName(t, first, "a.b", 80, 1, false)
		wantName(t, first, "x.a.b", 80, 3, true)
		wantName(t, first, "c", 80, -1, true)
	}
	check()
	for i := range l {
		l[i].Allow = !l[i].Allow
	}
	check()
	for i := range l {
		l[i].PortMin, l[i].PortMax = 7, 7
	}
	check()
	slices.Reverse(l)
	check()
	for i := range l {
		l[i] = addrRule(t, true, "9.0.0.0/8", 0, 65535)
	}
	check()
	for i := range l {
		l[i] = nameRule(false, "c", 0, 65535)
	}
	second := build(t, l...)
	wantName(t, second, "c", 80, 0, false)
	wantAddr(t, second, addr(t, "8.1.1.1"), 443, -1, false)
	check()
}
