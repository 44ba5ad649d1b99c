package acl

import (
	"math"
	"slices"
	"strings"
	"testing"

	"ginnel/api"
	"ginnel/blocklist"
	"ginnel/cidr"
	"ginnel/host"
	"ginnel/ip"
)

func wantAddr(t *testing.T, x *ACL, a api.Addr, port, rule int, allowed bool) {
	t.Helper()
	if got := x.MatchAddr(a, port); got != rule {
		t.Errorf("MatchAddr(%v, %d) = %d, want %d", a, port, got, rule)
	}
	if got := x.AllowsAddr(a, port); got != allowed {
		t.Errorf("AllowsAddr(%v, %d) = %v, want %v", a, port, got, allowed)
	}
}

func wantName(t *testing.T, x *ACL, name string, port, rule int, allowed bool) {
	t.Helper()
	if got := x.MatchName(name, port); got != rule {
		t.Errorf("MatchName(%q, %d) = %d, want %d", name, port, got, rule)
	}
	if got := x.AllowsName(name, port); got != allowed {
		t.Errorf("AllowsName(%q, %d) = %v, want %v", name, port, got, allowed)
	}
}

func wantTarget(t *testing.T, x *ACL, target api.Target, want bool) {
	t.Helper()
	if got := x.AllowsTarget(target); got != want {
		t.Errorf("AllowsTarget(%#v) = %v, want %v", target, got, want)
	}
}

// invalidPorts returns ports that no rule applies to, because no rule may name them.
func invalidPorts() []int {
	return []int{-1, -80, -65535, 65536, 65616, 1 << 17, 1<<32 + 80, math.MinInt, math.MaxInt}
}

// P12.2: MatchAddr and AllowsAddr

func TestAddrOfNoRules(t *testing.T) {
	for _, x := range []*ACL{build(t), build(t, nameRule(true, "a", 0, 65535))} {
		for _, s := range []string{"0.0.0.0", "8.8.8.8", "10.0.0.1", "255.255.255.255", "::", "::1", "2001:db8::1"} {
			for _, port := range append(invalidPorts(), 0, 1, 80, 65535) {
				wantAddr(t, x, addr(t, s), port, -1, false)
			}
		}
	}
}

// A prefix has its first and its last address and those between, but not the ones beside it.
func TestAddrOfOneRule(t *testing.T) {
	for _, c := range []struct {
		network         string
		inside, outside []string
	}{
		{"8.0.0.0/8", []string{"8.0.0.0", "8.8.8.8", "8.255.255.255"}, []string{"7.255.255.255", "9.0.0.0", "800::", "::8.0.0.0"}},
		{"8.8.8.0/31", []string{"8.8.8.0", "8.8.8.1"}, []string{"8.8.7.255", "8.8.8.2"}},
		{"8.8.8.8/32", []string{"8.8.8.8"}, []string{"8.8.8.7", "8.8.8.9", "808:808::"}},
		{"0.0.0.0/0", []string{"1.0.0.0", "8.8.8.8", "223.255.255.255"}, []string{"2001:db8::", "100::"}},
		{"::/0", []string{"::2", "2001:db8::1", "fbff:ffff::"}, []string{"1.0.0.0", "8.8.8.8"}},
		{"2001:db8::/33", []string{"2001:db8::", "2001:db8:7fff:ffff:ffff:ffff:ffff:ffff"}, []string{"2001:db8:8000::", "2001:db7:ffff::", "32.1.13.184"}},
		{"2001:db8::1/128", []string{"2001:db8::1"}, []string{"2001:db8::", "2001:db8::2"}},
	} {
		for _, allow := range []bool{true, false} {
			x := build(t, addrRule(t, allow, c.network, 80, 443))
			for _, s := range c.inside {
				wantAddr(t, x, addr(t, s), 80, 0, allow)
				wantAddr(t, x, addr(t, s), 443, 0, allow)
				wantAddr(t, x, addr(t, s), 79, -1, false)
			}
			for _, s := range c.outside {
				wantAddr(t, x, addr(t, s), 80, -1, false)
			}
		}
	}
}

func TestPortsOfAddrRules(t *testing.T) {
	a := addr(t, "8.8.8.8")
	for ports, valid := range portRanges() {
		if !valid {
			continue
		}
		low, high := ports[0], ports[1]
		x := build(t, addrRule(t, true, "8.0.0.0/8", low, high))
		wantAddr(t, x, a, low-1, -1, false)
		wantAddr(t, x, a, low, 0, true)
		wantAddr(t, x, a, (low+high)/2, 0, true)
		wantAddr(t, x, a, high, 0, true)
		wantAddr(t, x, a, high+1, -1, false)
		for _, port := range invalidPorts() {
			wantAddr(t, x, a, port, -1, false)
		}
	}
}

// The longest prefix decides, wherever its rule stands in the list.
func TestNestedPrefixes(t *testing.T) {
	for _, c := range []struct {
		networks [5]string
		address  [5]string // the longest prefix of each is the network at its place
	}{
		{[5]string{"0.0.0.0/0", "8.0.0.0/8", "8.8.0.0/16", "8.8.8.0/24", "8.8.8.8/32"}, [5]string{"9.1.1.1", "8.1.1.1", "8.8.1.1", "8.8.8.1", "8.8.8.8"}},
		{[5]string{"::/0", "2000::/3", "2001:db8::/32", "2001:db8:0:1::/64", "2001:db8:0:1::1/128"}, [5]string{"4000::1", "2002::1", "2001:db8::1", "2001:db8:0:1::2", "2001:db8:0:1::1"}},
	} {
		everyOrder([]int{0, 1, 2, 3, 4}, 0, func(order []int) {
			var l []api.Rule
			for _, i := range order {
				l = append(l, addrRule(t, i%2 == 0, c.networks[i], 80, 80))
			}
			x := build(t, l...)
			for place, i := range order {
				wantAddr(t, x, addr(t, c.address[i]), 80, place, i%2 == 0)
				wantAddr(t, x, addr(t, c.address[i]), 81, -1, false)
			}
		})
	}
}

// everyOrder calls f with every order of l that leaves the first n elements where they are.
func everyOrder(l []int, n int, f func([]int)) {
	if n == len(l) {
		f(l)
		return
	}
	for i := n; i < len(l); i++ {
		l[n], l[i] = l[i], l[n]
		everyOrder(l, n+1, f)
		l[n], l[i] = l[i], l[n]
	}
}

// A rule that does not apply to the port does not hide one with a shorter prefix that does.
func TestPortsOfNestedPrefixes(t *testing.T) {
	x := build(t,
		addrRule(t, true, "0.0.0.0/0", 0, 1000), addrRule(t, false, "8.0.0.0/8", 100, 500), addrRule(t, true, "8.8.0.0/16", 200, 300), addrRule(t, false, "8.8.8.8/32", 250, 250),
		addrRule(t, false, "::/0", 0, 1000), addrRule(t, true, "2001:db8::/32", 100, 500), addrRule(t, false, "2001:db8::1/128", 250, 600))
	for _, c := range []struct {
		port    int
		v4      int
		allowed bool
	}{
		{0, 0, true}, {99, 0, true}, {100, 1, false}, {199, 1, false}, {200, 2, true}, {249, 2, true}, {250, 3, false}, {251, 2, true}, {300, 2, true}, {301, 1, false}, {500, 1, false}, {501, 0, true}, {1000, 0, true}, {1001, -1, false},
	} {
		wantAddr(t, x, addr(t, "8.8.8.8"), c.port, c.v4, c.allowed)
	}
	for _, c := range []struct {
		port    int
		v6      int
		allowed bool
	}{
		{0, 4, false}, {99, 4, false}, {100, 5, true}, {249, 5, true}, {250, 6, false}, {500, 6, false}, {600, 6, false}, {601, 4, false}, {1000, 4, false}, {1001, -1, false},
	} {
		wantAddr(t, x, addr(t, "2001:db8::1"), c.port, c.v6, c.allowed)
	}
}

// Of several rules with one prefix, the first that applies to the port decides.
func TestEqualPrefixes(t *testing.T) {
	for _, c := range [][2]string{{"8.8.0.0/16", "8.8.8.8"}, {"2001:db8::/32", "2001:db8::1"}, {"0.0.0.0/0", "8.8.8.8"}, {"::/0", "2001:db8::1"}, {"8.8.8.8/32", "8.8.8.8"}, {"2001:db8::1/128", "2001:db8::1"}} {
		network, a := c[0], addr(t, c[1])
		x := build(t,
			addrRule(t, true, network, 0, 100), addrRule(t, false, network, 50, 200), nameRule(true, "a.b", 0, 65535), addrRule(t, true, network, 0, 300), addrRule(t, false, network, 0, 300), addrRule(t, true, network, 400, 400))
		for _, p := range []struct {
			port, rule int
			allowed    bool
		}{
			{0, 0, true}, {50, 0, true}, {100, 0, true}, {101, 1, false}, {200, 1, false}, {201, 3, true}, {300, 3, true}, {301, -1, false}, {399, -1, false}, {400, 5, true}, {401, -1, false},
		} {
			wantAddr(t, x, a, p.port, p.rule, p.allowed)
		}
	}
}

// Rules of one prefix need not be neighbours in the list, nor be in the order of their ports.
func TestEqualPrefixesBetweenOthers(t *testing.T) {
	x := build(t,
		addrRule(t, true, "8.0.0.0/8", 0, 65535), addrRule(t, false, "8.8.0.0/16", 443, 443), addrRule(t, true, "8.8.8.0/24", 22, 22), addrRule(t, true, "8.8.0.0/16", 80, 443), addrRule(t, false, "8.0.0.0/8", 0, 65535),
		addrRule(t, false, "8.8.8.0/24", 0, 22), addrRule(t, false, "8.8.0.0/16", 0, 80))
	for _, c := range []struct {
		address    string
		port, rule int
		allowed    bool
	}{
		{"8.1.1.1", 80, 0, true}, {"8.8.1.1", 443, 1, false}, {"8.8.1.1", 442, 3, true}, {"8.8.1.1", 80, 3, true}, {"8.8.1.1", 79, 6, false}, {"8.8.1.1", 444, 0, true}, {"8.8.8.1", 22, 2, true}, {"8.8.8.1", 21, 5, false}, {"8.8.8.1", 23, 6, false}, {"8.8.8.1", 80, 3, true}, {"8.8.8.1", 443, 1, false}, {"8.8.8.1", 444, 0, true},
	} {
		wantAddr(t, x, addr(t, c.address), c.port, c.rule, c.allowed)
	}
}

// Address rules and name rules share the indices, and nothing else.
func TestNameRulesDoNotConcernAddresses(t *testing.T) {
	x := build(t, nameRule(false, "a", 0, 65535), addrRule(t, true, "8.0.0.0/8", 80, 80), nameRule(true, "b.a", 0, 65535), addrRule(t, false, "8.8.0.0/16", 80, 80))
	wantAddr(t, x, addr(t, "8.1.1.1"), 80, 1, true)
	wantAddr(t, x, addr(t, "8.8.1.1"), 80, 3, false)
	wantAddr(t, x, addr(t, "8.1.1.1"), 81, -1, false)
	wantAddr(t, x, addr(t, "0.0.0.0"), 80, -1, false)
	wantAddr(t, x, addr(t, "1.2.3.4"), 80, -1, false)
}

// A rule without a suffix and without a prefix concerns all IPv4 addresses.
func TestZeroRule(t *testing.T) {
	x := build(t, api.Rule{}, api.Rule{Allow: true, PortMax: 80})
	wantAddr(t, x, addr(t, "8.8.8.8"), 0, 0, false)
	wantAddr(t, x, addr(t, "8.8.8.8"), 1, 1, true)
	wantAddr(t, x, addr(t, "8.8.8.8"), 81, -1, false)
	wantAddr(t, x, addr(t, "2001:db8::1"), 0, -1, false)
	wantName(t, x, "a.b", 0, -1, true)
}

// invalidAddrs returns IPv4 addresses with something behind their four bytes.
func invalidAddrs() []api.Addr {
	var l []api.Addr
	for _, a := range []api.Addr{{}, ip.V4(8, 8, 8, 8), ip.V4(10, 0, 0, 1)} {
		for i := 4; i < 16; i++ {
			for _, b := range []byte{1, 128, 255} {
				a.Bytes[i] = b
				l = append(l, a)
				a.Bytes[i] = 0
			}
		}
	}
	return l
}

func TestInvalidAddresses(t *testing.T) {
	x := build(t, addrRule(t, true, "0.0.0.0/0", 0, 65535), addrRule(t, true, "8.8.8.8/32", 0, 65535), addrRule(t, true, "::/0", 0, 65535))
	for _, a := range invalidAddrs() {
		wantAddr(t, x, a, 80, -1, false)
	}
}

// An IPv4-mapped address is an IPv6 address, which no rule for IPv4 concerns, and it is on the block list.
func TestMappedAddresses(t *testing.T) {
	a := addr(t, "::ffff:8.8.8.8")
	wantAddr(t, build(t, addrRule(t, true, "8.8.8.8/32", 0, 65535), addrRule(t, true, "0.0.0.0/0", 0, 65535)), a, 80, -1, false)
	wantAddr(t, build(t, addrRule(t, true, "::ffff:0:0/96", 0, 65535)), a, 80, 0, false)
	wantAddr(t, build(t, addrRule(t, true, "::/0", 0, 65535)), a, 80, 0, false)
}

// lastOf returns the last address of a prefix.
func lastOf(p api.Prefix) api.Addr {
	a := p.Addr
	for i := p.Bits; i < ip.BitLen(a); i++ {
		a.Bytes[i/8] |= 0x80 >> (i % 8)
	}
	return a
}

// The block list has no say in which rule matches, but denies what the rule allows.
func TestAddressesOnTheBlockList(t *testing.T) {
	for _, p := range blocklist.Prefixes() {
		all := api.Prefix{Addr: api.Addr{IPv6: p.Addr.IPv6}}
		for _, a := range []api.Addr{p.Addr, lastOf(p)} {
			one, _ := cidr.PrefixOf(a, ip.BitLen(a))
			for _, q := range []api.Prefix{p, all, one} {
				x := build(t, api.Rule{Allow: true, Prefix: q, PortMax: 65535})
				for _, port := range []int{0, 1, 80, 443, 65535} {
					wantAddr(t, x, a, port, 0, false)
					wantTarget(t, x, api.Target{Addr: a, Port: port}, false)
				}
			}
			wantAddr(t, build(t, api.Rule{Prefix: p, PortMax: 65535}), a, 80, 0, false)
		}
	}
}

func TestAddressesBesideTheBlockList(t *testing.T) {
	x := build(t, addrRule(t, true, "0.0.0.0/0", 80, 80), addrRule(t, true, "::/0", 80, 80))
	for _, s := range []string{"1.0.0.0", "9.255.255.255", "11.0.0.0", "100.63.255.255", "100.128.0.0", "126.255.255.255", "128.0.0.0", "169.253.255.255", "169.255.0.0", "172.15.255.255", "172.32.0.0", "192.167.255.255", "192.169.0.0", "223.255.255.255"} {
		wantAddr(t, x, addr(t, s), 80, 0, true)
	}
	for _, s := range []string{"::2", "::fffe:ffff:ffff", "::1:0:0:0", "64:ff9b::1:0:0", "fbff:ffff::", "fe00::", "fec0::", "feff:ffff::"} {
		wantAddr(t, x, addr(t, s), 80, 1, true)
	}
}

// P12.2: MatchName and AllowsName

// Without a rule, every host name is allowed, even for ports that no rule may name.
func TestNameOfNoRules(t *testing.T) {
	for _, x := range []*ACL{build(t), build(t, addrRule(t, false, "0.0.0.0/0", 0, 65535), addrRule(t, false, "::/0", 0, 65535)), build(t, nameRule(false, "x.y.z", 0, 65535))} {
		for _, port := range append(invalidPorts(), 0, 1, 80, 65535) {
			for _, s := range goodNames() {
				wantName(t, x, s, port, -1, true)
			}
			for _, s := range append(badNames(), "") {
				wantName(t, x, s, port, -1, false)
			}
		}
	}
}

// A suffix has itself and what ends with a dot and the suffix.
func TestNamesOfOneRule(t *testing.T) {
	for _, allow := range []bool{true, false} {
		x := build(t, nameRule(allow, "b.c", 80, 443))
		for _, s := range []string{"b.c", "a.b.c", "x.a.b.c", "b.c.b.c", "1.b.c", "a-b.b.c", "b.b.c", nameOfSize(249) + ".b.c"} {
			wantName(t, x, s, 80, 0, allow)
			wantName(t, x, s, 443, 0, allow)
			wantName(t, x, s, 79, -1, true)
			wantName(t, x, s, 444, -1, true)
		}
		for _, s := range []string{"c", "b", "a.c", "ab.c", "a-b.c", "1b.c", "b.ca", "b.c.a", "b-c", "bc", "a.b", "bb.c", "b.cc", "c.b"} {
			wantName(t, x, s, 80, -1, true)
		}
	}
}

// What is not a host name matches no rule and is not allowed, even if it ends with a suffix of the list.
func TestNamesThatAreNoHostNames(t *testing.T) {
	x := build(t, nameRule(true, "c", 0, 65535), nameRule(true, "b.c", 0, 65535), nameRule(true, "a.b.c", 0, 65535), addrRule(t, true, "0.0.0.0/0", 0, 65535))
	for _, s := range append(badNames(), "", "B.c", "b.C", "b.c.", ".b.c", "-.b.c", "..b.c", "_.b.c", "A.b.c", "a..b.c", "a-.b.c", "-a.b.c", " .b.c", "\u00e9.b.c", "\u212a.b.c", "*.b.c", "a.b.c:80", "b.c\x00", nameOfSize(250)+".b.c", strings.Repeat("a", 64)+".b.c") {
		wantName(t, x, s, 80, -1, false)
		wantTarget(t, x, api.Target{Name: s, Port: 80}, false)
	}
}

func TestPortsOfNameRules(t *testing.T) {
	for ports, valid := range portRanges() {
		if !valid {
			continue
		}
		low, high := ports[0], ports[1]
		x := build(t, nameRule(false, "b.c", low, high))
		wantName(t, x, "a.b.c", low-1, -1, true)
		wantName(t, x, "a.b.c", low, 0, false)
		wantName(t, x, "a.b.c", (low+high)/2, 0, false)
		wantName(t, x, "a.b.c", high, 0, false)
		wantName(t, x, "a.b.c", high+1, -1, true)
		for _, port := range invalidPorts() {
			wantName(t, x, "a.b.c", port, -1, true)
		}
	}
}

// The suffix with the most labels decides, wherever its rule stands in the list.
func TestNestedSuffixes(t *testing.T) {
	suffixes := [5]string{"net", "long-label.net", "c.long-label.net", "b.c.long-label.net", "a.b.c.long-label.net"}
	names := [5]string{"x.net", "x.long-label.net", "x.c.long-label.net", "b.c.long-label.net", "y.x.a.b.c.long-label.net"}
	everyOrder([]int{0, 1, 2, 3, 4}, 0, func(order []int) {
		var l []api.Rule
		for _, i := range order {
			l = append(l, nameRule(i%2 == 0, suffixes[i], 80, 80))
		}
		x := build(t, l...)
		for place, i := range order {
			wantName(t, x, names[i], 80, place, i%2 == 0)
			wantName(t, x, suffixes[i], 80, place, i%2 == 0)
			wantName(t, x, names[i], 81, -1, true)
		}
	})
}

// A rule that does not apply to the port does not hide one with fewer labels that does.
func TestPortsOfNestedSuffixes(t *testing.T) {
	x := build(t, nameRule(false, "c", 0, 1000), nameRule(true, "b.c", 100, 500), nameRule(false, "a.b.c", 200, 300), nameRule(true, "x.a.b.c", 250, 250))
	for _, c := range []struct {
		port, rule int
		allowed    bool
	}{
		{0, 0, false}, {99, 0, false}, {100, 1, true}, {199, 1, true}, {200, 2, false}, {249, 2, false}, {250, 3, true}, {251, 2, false}, {300, 2, false}, {301, 1, true}, {500, 1, true}, {501, 0, false}, {1000, 0, false}, {1001, -1, true},
	} {
		wantName(t, x, "x.a.b.c", c.port, c.rule, c.allowed)
	}
}

// Of several rules with one suffix, the first that applies to the port decides.
func TestEqualSuffixes(t *testing.T) {
	x := build(t,
		nameRule(true, "c", 0, 65535), nameRule(false, "b.c", 0, 100), nameRule(true, "b.c", 50, 200), addrRule(t, false, "0.0.0.0/0", 0, 65535), nameRule(false, "b.c", 0, 300), nameRule(true, "b.c", 0, 300), nameRule(false, "c", 0, 65535), nameRule(false, "b.c", 400, 400))
	for _, c := range []struct {
		port, rule int
		allowed    bool
	}{
		{0, 1, false}, {50, 1, false}, {100, 1, false}, {101, 2, true}, {200, 2, true}, {201, 4, false}, {300, 4, false}, {301, 0, true}, {399, 0, true}, {400, 7, false}, {401, 0, true},
	} {
		wantName(t, x, "b.c", c.port, c.rule, c.allowed)
		wantName(t, x, "a.b.c", c.port, c.rule, c.allowed)
	}
}

func TestLongestSuffixes(t *testing.T) {
	longest, labels := nameOfSize(api.MaxName), strings.Repeat("a.", 126)+"a"
	x := build(t, nameRule(false, longest, 0, 80), nameRule(false, labels, 0, 80), nameRule(true, labels[2:], 0, 80), nameRule(true, "a", 0, 80))
	wantName(t, x, longest, 80, 0, false)
	wantName(t, x, longest[1:], 80, -1, true)
	wantName(t, x, labels, 80, 1, false)
	wantName(t, x, labels[2:], 80, 2, true)
	wantName(t, x, labels[4:], 80, 3, true)
	wantName(t, x, "b."+longest, 80, -1, false)
	wantName(t, x, "b."+labels, 80, -1, false)
}

// P12.2: AllowsTarget

func TestTargets(t *testing.T) {
	x := build(t,
		addrRule(t, true, "8.0.0.0/8", 80, 443), addrRule(t, false, "8.8.0.0/16", 80, 80), addrRule(t, true, "2001:db8::/32", 443, 443), addrRule(t, true, "0.0.0.0/8", 0, 65535),
		nameRule(false, "b.c", 80, 443), nameRule(true, "a.b.c", 80, 80))
	for _, c := range []struct {
		name, address string
		port          int
		want          bool
	}{
		{"", "8.1.1.1", 80, true}, {"", "8.1.1.1", 443, true}, {"", "8.1.1.1", 79, false}, {"", "8.1.1.1", 444, false}, {"", "8.8.1.1", 80, false}, {"", "8.8.1.1", 81, true}, {"", "9.1.1.1", 80, false},
		{"", "2001:db8::1", 443, true}, {"", "2001:db8::1", 80, false}, {"", "2001:db9::1", 443, false}, {"", "::1", 443, false}, {"", "0.0.0.1", 80, false},
		{"b.c", "", 80, false}, {"x.b.c", "", 443, false}, {"b.c", "", 444, true}, {"b.c", "", 79, true}, {"a.b.c", "", 80, true}, {"x.a.b.c", "", 80, true}, {"a.b.c", "", 81, false}, {"c", "", 80, true}, {"example.org", "", 65535, true}, {"example.org", "", 1, true},
	} {
		target := api.Target{Name: c.name, Port: c.port}
		if c.address != "" {
			target.Addr = addr(t, c.address)
		}
		wantTarget(t, x, target, c.want)
	}
}

// A target that is not valid is denied, even if the rules allow its name or its address. Port 0 may be named by a rule, but not by a target.
func TestInvalidTargets(t *testing.T) {
	x := build(t, addrRule(t, true, "0.0.0.0/0", 0, 65535), addrRule(t, true, "::/0", 0, 65535), nameRule(true, "c", 0, 65535))
	good := []api.Target{{Name: "b.c"}, {Name: "d"}, {Addr: addr(t, "8.8.8.8")}, {Addr: addr(t, "2001:db8::1")}}
	for _, target := range good {
		for _, target.Port = range []int{1, 80, 65535} {
			wantTarget(t, x, target, true)
		}
		for _, target.Port = range append(invalidPorts(), 0) {
			wantTarget(t, x, target, false)
		}
	}
	wantTarget(t, x, api.Target{}, false)
	wantTarget(t, x, api.Target{Port: 80}, false) // valid, but its address is 0.0.0.0
	for _, s := range []string{"8.8.8.8", "2001:db8::1", "::", "0.0.0.1"} {
		for _, name := range append(goodNames(), badNames()...) {
			wantTarget(t, x, api.Target{Name: name, Addr: addr(t, s), Port: 80}, false)
		}
	}
	for _, a := range invalidAddrs() {
		wantTarget(t, x, api.Target{Addr: a, Port: 80}, false)
		wantTarget(t, x, api.Target{Name: "b.c", Addr: a, Port: 80}, false)
	}
	for _, s := range badNames() {
		wantTarget(t, x, api.Target{Name: s, Port: 80}, false)
	}
}

// P12.2: comparisons with the plain list

// model answers by the words of P12.2 alone: it goes through all rules, without a trie.
type model []api.Rule

func (m model) matchAddr(a api.Addr, port int) int {
	best := -1
	for i, r := range m {
		if r.Suffix == "" && r.PortMin <= port && port <= r.PortMax && cidr.Contains(r.Prefix, a) && (best < 0 || r.Prefix.Bits > m[best].Prefix.Bits) {
			best = i
		}
	}
	return best
}

func (m model) matchName(name string, port int) int {
	best := -1
	for i, r := range m {
		if r.Suffix != "" && r.PortMin <= port && port <= r.PortMax && host.IsSubdomain(name, r.Suffix) && (best < 0 || host.LabelCount(r.Suffix) > host.LabelCount(m[best].Suffix)) {
			best = i
		}
	}
	return best
}

func (m model) checkAddr(t *testing.T, x *ACL, a api.Addr, port int) {
	t.Helper()
	i := m.matchAddr(a, port)
	allowed := i >= 0 && m[i].Allow && !blocklist.Contains(a)
	wantAddr(t, x, a, port, i, allowed)
	wantTarget(t, x, api.Target{Addr: a, Port: port}, allowed && port >= 1)
}

func (m model) checkName(t *testing.T, x *ACL, name string, port int) {
	t.Helper()
	i := m.matchName(name, port)
	allowed := host.LabelCount(name) > 0 && (i < 0 || m[i].Allow)
	wantName(t, x, name, port, i, allowed)
	wantTarget(t, x, api.Target{Name: name, Port: port}, allowed && name != "" && port >= 1 && port <= 65535)
}

// Every list of up to three rules out of a few with equal and nested prefixes and suffixes, and with ports in common and of their own.
func TestEveryShortList(t *testing.T) {
	var pool []api.Rule
	for _, ports := range [][2]int{{1, 2}, {2, 3}} {
		for _, s := range []string{"8.0.0.0/7", "8.0.0.0/8", "9.0.0.0/8", "::/0"} {
			pool = append(pool, addrRule(t, ports[0] == 1, s, ports[0], ports[1]))
		}
		for _, s := range []string{"c", "b.c"} {
			pool = append(pool, nameRule(ports[0] == 1, s, ports[0], ports[1]))
		}
	}
	addrs := []api.Addr{addr(t, "8.1.1.1"), addr(t, "9.1.1.1"), addr(t, "10.1.1.1"), addr(t, "800::")}
	everyList(pool, 3, func(l []api.Rule) {
		x := build(t, l...)
		for port := range 5 {
			for _, a := range addrs {
				model(l).checkAddr(t, x, a, port)
			}
			for _, name := range []string{"c", "b.c", "a.b.c", "ab.c", "B.c"} {
				model(l).checkName(t, x, name, port)
			}
		}
	})
}

// everyList calls f with every list of up to n rules of pool.
func everyList(pool []api.Rule, n int, f func([]api.Rule)) {
	l := []api.Rule{}
	var extend func()
	extend = func() {
		f(l)
		if len(l) == n {
			return
		}
		for _, r := range pool {
			l = append(l, r)
			extend()
			l = l[:len(l)-1]
		}
	}
	extend()
}

// draws stands in for chance. It is a fixed recurrence: every run makes the same calls.
type draws uint64

func (d *draws) below(n int) int {
	*d = *d*6364136223846793005 + 1442695040888963407
	return int(uint64(*d>>33) % uint64(n))
}

func networks() []string {
	return []string{"0.0.0.0/0", "8.0.0.0/6", "8.0.0.0/8", "8.8.0.0/16", "8.8.8.0/24", "8.8.8.8/31", "8.8.8.8/32", "8.8.4.0/24", "10.0.0.0/8", "10.1.0.0/16", "127.0.0.1/32", "192.0.0.0/2", "::/0", "2001:db8::/32", "2001:db8::/33", "2001:db8:0:1::/64", "2001:db8:0:1::1/128", "fc00::/7", "::1/128", "::ffff:0:0/96", "64:ff9b::/96"}
}

func suffixes() []string {
	return []string{"c", "b.c", "a.b.c", "x.a.b.c", "ab.c", "a-b.c", "d", "b.d", "c.b.c", "b.c.b.c"}
}

// rules draws n rules, among them several with one prefix and several with one suffix.
func (d *draws) rules(t *testing.T, n int) []api.Rule {
	var l []api.Rule
	for range n {
		ports := []int{0, 79, 80, 81, 442, 443, 65535}
		low := d.below(len(ports))
		high := low + d.below(len(ports)-low)
		if allow := d.below(2) == 1; d.below(3) == 0 {
			l = append(l, nameRule(allow, suffixes()[d.below(len(suffixes()))], ports[low], ports[high]))
		} else {
			l = append(l, addrRule(t, allow, networks()[d.below(len(networks()))], ports[low], ports[high]))
		}
	}
	return l
}

// samples returns the first and the last address of each network, addresses that differ from the first in one bit of the prefix, and some that are not valid.
func samples(t *testing.T) []api.Addr {
	t.Helper()
	l := invalidAddrs()[:3]
	for _, s := range networks() {
		p := prefix(t, s)
		l = append(l, p.Addr, lastOf(p))
		for _, i := range []int{0, p.Bits / 2, max(0, p.Bits-1)} {
			a := p.Addr
			a.Bytes[i/8] ^= 0x80 >> (i % 8)
			l = append(l, a)
		}
	}
	return l
}

func TestManyLists(t *testing.T) {
	d, addrs := draws(12), samples(t)
	names := append(suffixes(), "", "y.c", "y.b.c", "y.x.a.b.c", "bc", "b.c.", "B.c", ".c", "8.8.8.8", "e")
	for i := range 6 * (api.MaxRules + 1) {
		l := d.rules(t, i%(api.MaxRules+1))
		x := build(t, l...)
		for _, port := range []int{-1, 0, 1, 78, 79, 80, 81, 82, 442, 443, 444, 65534, 65535, 65536} {
			for _, a := range addrs {
				model(l).checkAddr(t, x, a, port)
			}
			for _, name := range names {
				model(l).checkName(t, x, name, port)
			}
		}
	}
}

// A question changes no later answer, and lists do not share their rules.
func TestListsAreIndependent(t *testing.T) {
	l := []api.Rule{addrRule(t, true, "8.0.0.0/8", 80, 80), nameRule(true, "b.c", 80, 80)}
	x := build(t, l...)
	y := build(t, addrRule(t, false, "8.8.0.0/16", 80, 80), nameRule(false, "a.b.c", 80, 80), addrRule(t, false, "8.0.0.0/8", 80, 80))
	z := build(t, slices.Concat(l, l)...)
	for range 3 {
		wantAddr(t, x, addr(t, "8.8.8.8"), 80, 0, true)
		wantAddr(t, y, addr(t, "8.8.8.8"), 80, 0, false)
		wantAddr(t, y, addr(t, "8.1.1.1"), 80, 2, false)
		wantAddr(t, z, addr(t, "8.8.8.8"), 80, 0, true)
		wantName(t, x, "a.b.c", 80, 1, true)
		wantName(t, y, "a.b.c", 80, 1, false)
		wantName(t, z, "a.b.c", 80, 1, true)
	}
}

// The section "Consequences" of the chapter

// The second half of each list allows all that the first half denies, and the last two rules allow everything.
func TestBlockedAddressesAreNeverAllowed(t *testing.T) {
	d := draws(1)
	for i := range 4 * api.MaxRules {
		l := d.rules(t, i%(api.MaxRules/2))
		for _, r := range l {
			r.Allow, r.PortMin, r.PortMax = true, 0, 65535
			l = append(l, r)
		}
		x := build(t, append(l, addrRule(t, true, "0.0.0.0/0", 0, 65535), addrRule(t, true, "::/0", 0, 65535))...)
		for _, p := range blocklist.Prefixes() {
			for _, a := range []api.Addr{p.Addr, lastOf(p)} {
				for _, port := range []int{-1, 0, 79, 80, 443, 65535, 65536} {
					if x.AllowsAddr(a, port) || x.AllowsTarget(api.Target{Addr: a, Port: port}) {
						t.Errorf("%s is on the block list and allowed for port %d by %v", ip.Format(a), port, l)
					}
				}
			}
		}
		for _, a := range invalidAddrs() {
			if x.AllowsAddr(a, 80) || x.AllowsTarget(api.Target{Addr: a, Port: 80}) {
				t.Errorf("%v is not valid and allowed by %v", a, l)
			}
		}
	}
}

// The section "Examples" of the chapter

func TestExample(t *testing.T) {
	x := build(t, addrRule(t, true, "8.0.0.0/8", 443, 443), addrRule(t, false, "8.8.0.0/16", 0, 65535))
	wantAddr(t, x, addr(t, "8.1.1.1"), 443, 0, true)
	wantAddr(t, x, addr(t, "8.8.1.1"), 443, 1, false)
	wantAddr(t, x, addr(t, "8.1.1.1"), 80, -1, false)
}
