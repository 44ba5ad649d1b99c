package trie

import (
	"fmt"
	"math"
	"math/bits"
	"slices"
	"strconv"
	"testing"

	"ginnel/api"
	"ginnel/cidr"
	"ginnel/ip"
)

// model is the trie of the document as a plain list of prefixes with values, in no order, that is searched from end to end.
type model struct {
	list []item
}

type item struct {
	prefix api.Prefix
	value  string
}

func (m *model) find(p api.Prefix) int {
	return slices.IndexFunc(m.list, func(e item) bool { return e.prefix == p })
}

func (m *model) insert(p api.Prefix, x string) bool {
	if !cidr.Valid(p) {
		return false
	}
	m.delete(p)
	m.list = append(m.list, item{p, x})
	return true
}

func (m *model) get(p api.Prefix) (string, bool) {
	i := m.find(p)
	if i < 0 {
		return "", false
	}
	return m.list[i].value, true
}

func (m *model) delete(p api.Prefix) bool {
	i := m.find(p)
	if i < 0 {
		return false
	}
	m.list = slices.Delete(m.list, i, i+1)
	return true
}

func (m *model) prefixes() []api.Prefix {
	var l []api.Prefix
	for _, e := range m.list {
		l = append(l, e.prefix)
	}
	slices.SortFunc(l, cidr.Compare)
	return l
}

func (m *model) matches(a api.Addr) []api.Prefix {
	var l []api.Prefix
	for _, e := range m.list {
		if cidr.Contains(e.prefix, a) {
			l = append(l, e.prefix)
		}
	}
	slices.SortFunc(l, func(p, q api.Prefix) int { return p.Bits - q.Bits })
	return l
}

// pair is a trie and a model that have seen the same calls.
type pair struct {
	t     *testing.T
	x     *Trie[string]
	m     *model
	calls int
}

func newPair(t *testing.T, l ...api.Prefix) *pair {
	p := &pair{t: t, x: New[string](), m: &model{}}
	for _, q := range l {
		p.insert(q)
	}
	return p
}

// insert stores a value that no other call stores.
func (p *pair) insert(q api.Prefix) {
	p.t.Helper()
	p.calls++
	x := "value of call " + strconv.Itoa(p.calls)
	want := p.m.insert(q, x)
	if got := p.x.Insert(q, x); got != want {
		p.t.Fatalf("Insert(%s) = %v, want %v", text(q), got, want)
	}
}

func (p *pair) delete(q api.Prefix) {
	p.t.Helper()
	want := p.m.delete(q)
	if got := p.x.Delete(q); got != want {
		p.t.Fatalf("Delete(%s) = %v, want %v", text(q), got, want)
	}
}

// check compares all that the trie tells with the model: of every stored prefix and of the ones next to it, and of the given prefixes and their addresses.
func (p *pair) check(more ...api.Prefix) {
	p.t.Helper()
	want := p.m.prefixes()
	if got := p.x.Prefixes(); !slices.Equal(got, want) {
		p.t.Fatalf("Prefixes() = %s, want %s", texts(got), texts(want))
	}
	if got := p.x.Len(); got != len(want) {
		p.t.Fatalf("Len() = %d, want %d", got, len(want))
	}
	for _, q := range want {
		p.checkPrefix(q)
		p.checkPrefix(api.Prefix{Addr: q.Addr, Bits: q.Bits - 1})
		p.checkPrefix(api.Prefix{Addr: q.Addr, Bits: q.Bits + 1})
		p.checkAddr(lastOf(q))
	}
	for _, q := range more {
		p.checkPrefix(q)
	}
	checkNodes(p.t, p.x)
}

// checkPrefix compares the value of q, and what contains its address.
func (p *pair) checkPrefix(q api.Prefix) {
	p.t.Helper()
	p.checkGet(q)
	p.checkAddr(q.Addr)
}

func (p *pair) checkGet(q api.Prefix) {
	p.t.Helper()
	want, some := p.m.get(q)
	if got, ok := p.x.Get(q); got != want || ok != some {
		p.t.Fatalf("Get(%s) = %q, %v, want %q, %v, in %s", text(q), got, ok, want, some, texts(p.m.prefixes()))
	}
}

func (p *pair) checkAddr(a api.Addr) {
	p.t.Helper()
	l := p.m.matches(a)
	if got := p.x.Matches(a); !slices.Equal(got, l) {
		p.t.Fatalf("Matches(%v) = %s, want %s, in %s", a, texts(got), texts(l), texts(p.m.prefixes()))
	}
	var last api.Prefix
	var want string
	if len(l) > 0 {
		last = l[len(l)-1]
		want, _ = p.m.get(last)
	}
	if q, x, ok := p.x.Lookup(a); q != last || x != want || ok != (len(l) > 0) {
		p.t.Fatalf("Lookup(%v) = %s, %q, %v, want %s, %q, %v, in %s", a, text(q), x, ok, text(last), want, len(l) > 0, texts(p.m.prefixes()))
	}
}

// checkNodes checks that the trie keeps no more nodes than its prefixes need: a node without a value has nodes on both sides.
func checkNodes[T any](t *testing.T, x *Trie[T]) {
	t.Helper()
	count := countNodes(t, x.v4) + countNodes(t, x.v6)
	if count > max(0, 2*x.Len()-1) {
		t.Fatalf("%d prefixes are kept in %d nodes", x.Len(), count)
	}
}

func countNodes[T any](t *testing.T, n *node[T]) int {
	t.Helper()
	if n == nil {
		return 0
	}
	if n.value == nil && (n.below[0] == nil || n.below[1] == nil) {
		t.Fatalf("the node of %s has no value and joins nothing", text(n.prefix))
	}
	return 1 + countNodes(t, n.below[0]) + countNodes(t, n.below[1])
}

func text(p api.Prefix) string {
	if s := cidr.Format(p); s != "" {
		return s
	}
	return fmt.Sprintf("invalid prefix %v", p)
}

func texts(l []api.Prefix) string {
	s := []string{}
	for _, p := range l {
		s = append(s, text(p))
	}
	return fmt.Sprint(s)
}

func addr(t *testing.T, s string) api.Addr {
	t.Helper()
	a, ok := ip.Parse(s)
	if !ok {
		t.Fatalf("%q is no address", s)
	}
	return a
}

func prefix(t *testing.T, s string) api.Prefix {
	t.Helper()
	p, ok := cidr.Parse(s)
	if !ok {
		t.Fatalf("%q is no prefix", s)
	}
	return p
}

func prefixes(t *testing.T, l ...string) []api.Prefix {
	t.Helper()
	var out []api.Prefix
	for _, s := range l {
		out = append(out, prefix(t, s))
	}
	return out
}

// lastOf returns the greatest address that p contains.
func lastOf(p api.Prefix) api.Addr {
	a := p.Addr
	for i := p.Bits; i < ip.BitLen(a); i++ {
		a.Bytes[i/8] |= 0x80 >> (i % 8)
	}
	return a
}

// samples are prefixes of both families, in the order of cidr.Compare: nested ones, neighbors, and the shortest and longest ones.
func samples(t *testing.T) []api.Prefix {
	t.Helper()
	return prefixes(t,
		"0.0.0.0/0", "0.0.0.0/1", "0.0.0.0/32", "0.0.0.1/32", "9.0.0.0/8", "10.0.0.0/7", "10.0.0.0/8", "10.0.0.0/9", "10.1.0.0/16", "10.1.2.2/31", "10.1.2.3/32",
		"10.128.0.0/9", "11.0.0.0/8", "128.0.0.0/1", "192.0.2.0/24", "255.255.255.255/32",
		"::/0", "::/1", "::/128", "::1/128", "::ffff:0.0.0.0/96", "::ffff:10.0.0.0/104", "a00::/8", "2001:db8::/32", "2001:db8::/64", "2001:db8::1/128", "2001:db8:0:1::/64",
		"8000::/1", "fe80::/10", "ffff:ffff:ffff:ffff:ffff:ffff:ffff:ffff/128",
	)
}

// badAddrs returns IPv4 addresses that are not valid.
func badAddrs() []api.Addr {
	var l []api.Addr
	for i := 4; i < 16; i++ {
		a, b := api.Addr{}, ip.V4(10, 1, 2, 3)
		a.Bytes[i], b.Bytes[i] = 1, 255
		l = append(l, a, b)
	}
	return l
}

// badPrefixes returns prefixes that are not valid, for each of the reasons that there are.
func badPrefixes(t *testing.T) []api.Prefix {
	t.Helper()
	var l []api.Prefix
	for _, a := range badAddrs() {
		l = append(l, api.Prefix{Addr: a}, api.Prefix{Addr: a, Bits: 8}, api.Prefix{Addr: a, Bits: 32}, api.Prefix{Addr: a, Bits: 128})
	}
	for _, p := range samples(t) {
		size := ip.BitLen(p.Addr)
		for _, bits := range []int{math.MinInt, -129, -1, size + 1, 129, 256, 1<<32 + 8, math.MaxInt} {
			l = append(l, api.Prefix{Addr: p.Addr, Bits: bits})
		}
		if p.Bits < size {
			l = append(l, api.Prefix{Addr: lastOf(p), Bits: p.Bits})
		}
	}
	return l
}

// P10.1

func TestEmptyTrie(t *testing.T) {
	p := newPair(t)
	if l := p.x.Prefixes(); len(l) != 0 || p.x.Len() != 0 {
		t.Errorf("an empty trie has %s and Len %d", texts(l), p.x.Len())
	}
	for _, q := range samples(t) {
		if x, ok := p.x.Get(q); x != "" || ok {
			t.Errorf("Get(%s) = %q, %v", text(q), x, ok)
		}
		if p.x.Delete(q) {
			t.Errorf("Delete(%s) = true", text(q))
		}
		if l := p.x.Matches(q.Addr); len(l) != 0 {
			t.Errorf("Matches(%v) = %s", q.Addr, texts(l))
		}
		if r, x, ok := p.x.Lookup(q.Addr); r != (api.Prefix{}) || x != "" || ok {
			t.Errorf("Lookup(%v) = %s, %q, %v", q.Addr, text(r), x, ok)
		}
	}
	p.check(append(samples(t), badPrefixes(t)...)...)
}

func TestInsertAndGet(t *testing.T) {
	x := New[string]()
	for i, q := range samples(t) {
		if !x.Insert(q, cidr.Format(q)) {
			t.Errorf("Insert(%s) = false", text(q))
		}
		if x.Len() != i+1 {
			t.Errorf("Len() = %d after Insert %d", x.Len(), i+1)
		}
	}
	for _, q := range samples(t) {
		if got, ok := x.Get(q); got != cidr.Format(q) || !ok {
			t.Errorf("Get(%s) = %q, %v", text(q), got, ok)
		}
	}
	if l := x.Prefixes(); !slices.Equal(l, samples(t)) {
		t.Errorf("Prefixes() = %s", texts(l))
	}
}

// Whatever two prefixes are stored, in whichever order, both have their values, and either can go.
func TestTwoPrefixes(t *testing.T) {
	for _, q := range samples(t) {
		for _, r := range samples(t) {
			p := newPair(t, q, r)
			p.check(samples(t)...)
			p.delete(r)
			p.check(q, r)
			p.insert(r)
			p.check(q, r)
			p.delete(q)
			p.check(q, r)
		}
	}
}

func TestInvalidPrefixesChangeNothing(t *testing.T) {
	for _, l := range [][]api.Prefix{nil, samples(t)} {
		p := newPair(t, l...)
		for _, q := range badPrefixes(t) {
			if p.x.Insert(q, "never") {
				t.Errorf("Insert(%s) = true", text(q))
			}
			if x, ok := p.x.Get(q); x != "" || ok {
				t.Errorf("Get(%s) = %q, %v", text(q), x, ok)
			}
			if p.x.Delete(q) {
				t.Errorf("Delete(%s) = true", text(q))
			}
		}
		p.check(append(samples(t), badPrefixes(t)...)...)
	}
}

func TestInsertReplacesAValue(t *testing.T) {
	p := newPair(t, samples(t)...)
	for _, q := range samples(t) {
		before, _ := p.x.Get(q)
		p.insert(q)
		if after, ok := p.x.Get(q); after == before || !ok {
			t.Errorf("Get(%s) = %q, %v after a second Insert", text(q), after, ok)
		}
		if p.x.Len() != len(samples(t)) {
			t.Errorf("Len() = %d after a second Insert of %s", p.x.Len(), text(q))
		}
	}
	p.check()
}

// Prefixes without a value, above, below and beside the stored ones: among them the ones at which paths to stored prefixes part.
func TestPrefixesThatAreNotStored(t *testing.T) {
	p := newPair(t, prefixes(t, "10.0.0.0/8", "10.1.0.0/16", "10.2.0.0/16", "192.0.2.0/24", "2001:db8::/32", "2001:db9::/32", "2001:db8::1/128")...)
	others := prefixes(t,
		"0.0.0.0/0", "0.0.0.0/8", "10.0.0.0/7", "10.0.0.0/9", "10.0.0.0/14", "10.0.0.0/16", "10.0.0.0/15", "10.1.0.0/17", "10.1.0.0/32", "10.3.0.0/16", "10.255.255.255/32", "11.0.0.0/8",
		"128.0.0.0/1", "192.0.2.0/23", "192.0.2.0/25", "192.0.2.0/32", "192.0.3.0/24",
		"::/0", "2001:db8::/31", "2001:db8::/33", "2001:db8::/64", "2001:db8::/127", "2001:db8::/128", "2001:db8::2/128", "2001:dba::/32", "8000::/1", "a00::/8",
	)
	for _, q := range others {
		if x, ok := p.x.Get(q); x != "" || ok {
			t.Errorf("Get(%s) = %q, %v", text(q), x, ok)
		}
		if p.x.Delete(q) {
			t.Errorf("Delete(%s) = true", text(q))
		}
		p.check(others...)
	}
}

// Every prefix of one address is stored, or every other one. Each is deleted and inserted again, while all the longer and shorter ones stay.
func TestDeleteBetweenLongerAndShorterPrefixes(t *testing.T) {
	for _, s := range []string{"10.1.2.3", "0.0.0.0", "255.255.255.255", "170.170.170.170", "::", "2001:db8::1", "aaaa:aaaa:aaaa:aaaa:aaaa:aaaa:aaaa:aaaa"} {
		a := addr(t, s)
		for _, step := range []int{1, 2} {
			p := newPair(t)
			var l []api.Prefix
			for bits := 0; bits <= ip.BitLen(a); bits += step {
				q, _ := cidr.PrefixOf(a, bits)
				l = append(l, q)
				p.insert(q)
			}
			for _, q := range l {
				p.delete(q)
				p.delete(q)
				p.checkPrefix(q)
				p.checkAddr(a)
				p.insert(q)
				p.checkAddr(a)
			}
			p.check(l...)
		}
	}
}

func TestShortestAndLongestPrefixes(t *testing.T) {
	shortest, longest := prefixes(t, "0.0.0.0/0", "::/0"), prefixes(t, "0.0.0.0/32", "255.255.255.255/32", "10.1.2.3/32", "::/128", "::1/128", "ffff:ffff:ffff:ffff:ffff:ffff:ffff:ffff/128")
	all := append(slices.Clone(shortest), longest...)
	for _, q := range all {
		p := newPair(t, q)
		p.check(all...)
		p.delete(q)
		p.check(all...)
	}
	p := newPair(t, all...)
	p.check(all...)
	for _, q := range all {
		p.delete(q)
		p.check(all...)
	}
	for _, q := range slices.Backward(all) {
		p.insert(q)
		p.check(all...)
	}
}

// The prefix of length 0 of one family says nothing of the other family.
func TestFamiliesAreApart(t *testing.T) {
	x := New[string]()
	x.Insert(prefix(t, "::/0"), "six")
	if _, ok := x.Get(prefix(t, "0.0.0.0/0")); ok || x.Delete(prefix(t, "0.0.0.0/0")) {
		t.Errorf("0.0.0.0/0 is stored with ::/0")
	}
	x.Insert(prefix(t, "0.0.0.0/0"), "four")
	x.Delete(prefix(t, "::/0"))
	if got, ok := x.Get(prefix(t, "0.0.0.0/0")); got != "four" || !ok || x.Len() != 1 {
		t.Errorf("Get(0.0.0.0/0) = %q, %v with Len %d", got, ok, x.Len())
	}
}

// Each of the 5,040 orders in which these can be inserted, and deleted again, gives the same answers.
func TestPrefixesAfterInsertsInAnyOrder(t *testing.T) {
	want := prefixes(t, "0.0.0.0/0", "10.0.0.0/8", "10.0.0.0/9", "10.128.0.0/9", "::/0", "a00::/8", "a00::/9")
	orders := 0
	permute(slices.Clone(want), 0, func(l []api.Prefix) {
		orders++
		p := newPair(t, l...)
		if got := p.x.Prefixes(); !slices.Equal(got, want) {
			t.Fatalf("after inserts of %s, Prefixes() = %s", texts(l), texts(got))
		}
		checkNodes(t, p.x)
		for _, q := range l {
			p.delete(q)
			if got := p.x.Prefixes(); !slices.Equal(got, p.m.prefixes()) {
				t.Fatalf("after inserts of %s and deletions up to %s, Prefixes() = %s", texts(l), text(q), texts(got))
			}
			checkNodes(t, p.x)
		}
	})
	if orders != 5040 {
		t.Errorf("%d orders", orders)
	}
}

// permute calls see with every order of the elements from index i on.
func permute(l []api.Prefix, i int, see func([]api.Prefix)) {
	if i == len(l) {
		see(l)
		return
	}
	for j := i; j < len(l); j++ {
		l[i], l[j] = l[j], l[i]
		permute(l, i+1, see)
		l[i], l[j] = l[j], l[i]
	}
}

// P10.2

func wantMatches(t *testing.T, x *Trie[string], s string, want ...string) {
	t.Helper()
	l := prefixes(t, want...)
	if got := x.Matches(addr(t, s)); !slices.Equal(got, l) {
		t.Errorf("Matches(%s) = %s, want %s", s, texts(got), texts(l))
	}
	q, v, ok := x.Lookup(addr(t, s))
	if len(l) == 0 {
		if q != (api.Prefix{}) || v != "" || ok {
			t.Errorf("Lookup(%s) = %s, %q, %v, want nothing", s, text(q), v, ok)
		}
		return
	}
	if last := l[len(l)-1]; q != last || v != "value of "+text(last) || !ok {
		t.Errorf("Lookup(%s) = %s, %q, %v, want %s", s, text(q), v, ok, text(last))
	}
}

// named returns a trie whose values name their prefixes.
func named(t *testing.T, l ...string) *Trie[string] {
	t.Helper()
	x := New[string]()
	for _, q := range prefixes(t, l...) {
		x.Insert(q, "value of "+text(q))
	}
	return x
}

func TestMatchesOfNestedPrefixes(t *testing.T) {
	x := named(t, "10.1.2.3/32", "10.0.0.0/8", "10.1.0.0/16", "10.1.2.2/31", "10.128.0.0/9", "192.0.2.0/24", "2001:db8::/32", "2001:db8::1/128", "2000::/3", "2001:db8:0:1::/64")
	wantMatches(t, x, "10.1.2.3", "10.0.0.0/8", "10.1.0.0/16", "10.1.2.2/31", "10.1.2.3/32")
	wantMatches(t, x, "10.1.2.2", "10.0.0.0/8", "10.1.0.0/16", "10.1.2.2/31")
	wantMatches(t, x, "10.1.2.1", "10.0.0.0/8", "10.1.0.0/16")
	wantMatches(t, x, "10.1.255.255", "10.0.0.0/8", "10.1.0.0/16")
	wantMatches(t, x, "10.2.0.0", "10.0.0.0/8")
	wantMatches(t, x, "10.127.255.255", "10.0.0.0/8")
	wantMatches(t, x, "10.128.0.0", "10.0.0.0/8", "10.128.0.0/9")
	wantMatches(t, x, "192.0.2.255", "192.0.2.0/24")
	wantMatches(t, x, "2001:db8::1", "2000::/3", "2001:db8::/32", "2001:db8::1/128")
	wantMatches(t, x, "2001:db8::2", "2000::/3", "2001:db8::/32")
	wantMatches(t, x, "2001:db8:0:1::1", "2000::/3", "2001:db8::/32", "2001:db8:0:1::/64")
	wantMatches(t, x, "3fff::", "2000::/3")
}

func TestMatchesOfNothing(t *testing.T) {
	x := named(t, "10.1.0.0/16", "10.2.0.0/16", "192.0.2.1/32", "2001:db8::/32", "2001:db9::1/128")
	for _, s := range []string{"0.0.0.0", "10.0.0.0", "10.0.255.255", "10.3.0.0", "192.0.2.0", "192.0.2.2", "255.255.255.255", "::", "::1", "::ffff:10.1.0.0", "2001:db7::", "2001:db9::", "2001:dba::", "a01::"} {
		wantMatches(t, x, s)
	}
}

func TestMatchesOfTheOtherFamily(t *testing.T) {
	four := named(t, "0.0.0.0/0", "10.0.0.0/8", "10.1.2.3/32", "0.0.0.0/32")
	for _, s := range []string{"::", "::1", "a01:203::", "::ffff:10.1.2.3", "::10.1.2.3"} {
		wantMatches(t, four, s)
	}
	six := named(t, "::/0", "a00::/8", "a01:203::/32", "::ffff:0.0.0.0/96", "::/32")
	for _, s := range []string{"0.0.0.0", "10.1.2.3", "255.255.255.255"} {
		wantMatches(t, six, s)
	}
}

func TestInvalidAddresses(t *testing.T) {
	x := named(t, "0.0.0.0/0", "10.0.0.0/8", "10.1.2.3/32", "0.0.0.0/32", "::/0")
	for _, a := range badAddrs() {
		if l := x.Matches(a); len(l) != 0 {
			t.Errorf("Matches(%v) = %s", a, texts(l))
		}
		if q, v, ok := x.Lookup(a); q != (api.Prefix{}) || v != "" || ok {
			t.Errorf("Lookup(%v) = %s, %q, %v", a, text(q), v, ok)
		}
	}
}

// After a deletion, the next shorter prefix is the one that Lookup returns.
func TestLookupAfterDeletions(t *testing.T) {
	for _, s := range []string{"10.1.2.3", "2001:db8::1"} {
		a := addr(t, s)
		p := newPair(t)
		for bits := range ip.BitLen(a) + 1 {
			q, _ := cidr.PrefixOf(a, bits)
			p.insert(q)
		}
		for bits := ip.BitLen(a); bits >= 0; bits-- {
			q, _ := cidr.PrefixOf(a, bits)
			if got, _, ok := p.x.Lookup(a); got != q || !ok {
				t.Fatalf("Lookup(%s) = %s, %v, want %s", s, text(got), ok, text(q))
			}
			p.delete(q)
		}
		p.check()
	}
}

// All prefixes of an address are stored. One that differs from it in bit i belongs to those of at most i bits.
func TestLookupWithOneBitChanged(t *testing.T) {
	for _, s := range []string{"10.1.2.3", "170.170.170.170", "2001:db8:ffff::1", "::"} {
		a := addr(t, s)
		p := newPair(t)
		for bits := range ip.BitLen(a) + 1 {
			q, _ := cidr.PrefixOf(a, bits)
			p.insert(q)
		}
		for i := range ip.BitLen(a) {
			b := a
			b.Bytes[i/8] ^= 0x80 >> (i % 8)
			want, _ := cidr.PrefixOf(a, i)
			if got, _, ok := p.x.Lookup(b); got != want || !ok || len(p.x.Matches(b)) != i+1 {
				t.Errorf("Lookup(%v) = %s, %v, want %s", b, text(got), ok, text(want))
			}
			p.checkAddr(b)
		}
	}
}

// P10.1 and P10.2: comparisons with the plain list

// family returns the prefix of length n of a, and the 14 that it covers of at most three more bits.
func family(a api.Addr, n int) []api.Prefix {
	first, _ := cidr.PrefixOf(a, n)
	l := []api.Prefix{first}
	for i := range 7 {
		p := l[i]
		q := api.Prefix{Addr: p.Addr, Bits: p.Bits + 1}
		l = append(l, q)
		q.Addr.Bytes[p.Bits/8] |= 0x80 >> (p.Bits % 8)
		l = append(l, q)
	}
	return l
}

// Every set of prefixes of such a family is reached by one call from another one, at the start of an address and at its end.
func TestEverySetOfPrefixes(t *testing.T) {
	for _, l := range [][]api.Prefix{family(addr(t, "10.1.2.3"), 0), family(addr(t, "2001:db8::1"), 125)} {
		p := newPair(t)
		for i := 1; i < 1<<len(l); i++ {
			q := l[bits.TrailingZeros(uint(i))] // the order of a Gray code
			if p.m.find(q) < 0 {
				p.insert(q)
			} else {
				p.delete(q)
			}
			for _, r := range l {
				p.checkGet(r)
			}
			for _, r := range l[7:] { // the longest ones have all the addresses
				p.checkAddr(r.Addr)
			}
			if got := p.x.Prefixes(); !slices.Equal(got, p.m.prefixes()) || p.x.Len() != len(got) {
				t.Fatalf("Prefixes() = %s, want %s; Len() = %d", texts(got), texts(p.m.prefixes()), p.x.Len())
			}
			checkNodes(t, p.x)
		}
	}
}

// draws stands in for chance. It is a fixed recurrence: every run makes the same calls.
type draws uint64

func (d *draws) below(n int) int {
	*d = *d*6364136223846793005 + 1442695040888963407
	return int(uint64(*d>>33) % uint64(n))
}

// prefix returns a valid prefix in which bits are set among the first ones alone. The fewer these are, the more prefixes are nested or equal.
func (d *draws) prefix(spread int) api.Prefix {
	a := api.Addr{IPv6: d.below(2) == 1}
	for range d.below(spread) {
		i := d.below(spread)
		a.Bytes[i/8] |= 0x80 >> (i % 8)
	}
	bits := d.below(spread + 1)
	if d.below(8) == 0 {
		bits = ip.BitLen(a) - d.below(3)
	}
	q, _ := cidr.PrefixOf(a, bits)
	return q
}

func TestManyCalls(t *testing.T) {
	bad := badPrefixes(t)
	for _, spread := range []int{2, 6, 32} {
		d, p := draws(spread), newPair(t)
		for i := range 3000 {
			q := d.prefix(spread)
			switch n := len(p.m.list); {
			case d.below(8) == 0:
				q = bad[d.below(len(bad))]
				p.insert(q)
				p.delete(q)
			case n > 0 && d.below(100) < n: // up to some 50 prefixes
				q = p.m.list[d.below(n)].prefix
				p.delete(q)
			case d.below(8) == 0:
				p.delete(q)
			default:
				p.insert(q)
			}
			p.checkPrefix(q)
			p.checkPrefix(d.prefix(spread))
			if i%20 == 0 {
				p.check()
			}
		}
		for len(p.m.list) > 0 {
			p.delete(p.m.list[d.below(len(p.m.list))].prefix)
			p.check()
		}
	}
}

// The section "Consequences" of the chapter.

func TestNoStoredPrefixOfAnAddressIsLonger(t *testing.T) {
	x, held := New[int](), 0
	for i, p := range samples(t) {
		if i%3 != 1 {
			x.Insert(p, i)
		}
	}
	for _, s := range samples(t) {
		for _, a := range []api.Addr{s.Addr, lastOf(s)} {
			longest, _, ok := x.Lookup(a)
			for _, p := range x.Prefixes() {
				if !cidr.Contains(p, a) {
					continue
				}
				held++
				if !ok || !cidr.Contains(longest, a) || p.Bits > longest.Bits {
					t.Errorf("Lookup(%v) = %s, %v, but %s contains it", a, text(longest), ok, text(p))
				}
			}
		}
	}
	if held < len(samples(t)) {
		t.Errorf("the samples have %d cases", held)
	}
}

// R2: tries do not share their prefixes, and a question changes nothing.

func TestTriesAreIndependent(t *testing.T) {
	a, b := newPair(t, samples(t)...), newPair(t)
	b.check(samples(t)...)
	for i, q := range samples(t) {
		if i%2 == 0 {
			b.insert(q)
			a.delete(q)
		}
		a.check(q)
		b.check(q)
	}
	for _, q := range samples(t) {
		a.insert(q)
		b.delete(q)
	}
	a.check(samples(t)...)
	b.check(samples(t)...)
}

func TestQuestionsChangeNothing(t *testing.T) {
	p := newPair(t, samples(t)...)
	for range 3 {
		p.check(append(samples(t), badPrefixes(t)...)...)
	}
}

// R3: the lists that Prefixes and Matches return are the caller's.

func TestListsAreFreshMemory(t *testing.T) {
	p := newPair(t, samples(t)...)
	a := addr(t, "10.1.2.3")
	all, nested := p.x.Prefixes(), p.x.Matches(a)
	for range 2 {
		wipe(p.x.Prefixes())
		wipe(p.x.Matches(a))
		p.check()
	}
	p.delete(prefix(t, "10.1.0.0/16"))
	p.delete(prefix(t, "0.0.0.0/0"))
	if !slices.Equal(all, samples(t)) {
		t.Errorf("a list of Prefixes became %s", texts(all))
	}
	if want := prefixes(t, "0.0.0.0/0", "0.0.0.0/1", "10.0.0.0/7", "10.0.0.0/8", "10.0.0.0/9", "10.1.0.0/16", "10.1.2.2/31", "10.1.2.3/32"); !slices.Equal(nested, want) {
		t.Errorf("a list of Matches became %s", texts(nested))
	}
}

// wipe overwrites the list and the memory behind it.
func wipe(l []api.Prefix) {
	l = l[:cap(l)]
	for i := range l {
		l[i] = api.Prefix{Bits: -1}
	}
}

// R10: values of any type, also of types that cannot be compared.

func TestAnyValueType(t *testing.T) {
	type record struct {
		names []string
		call  func() int
	}
	p, q, a := prefix(t, "10.0.0.0/8"), prefix(t, "10.1.0.0/16"), addr(t, "10.1.2.3")
	records := New[record]()
	records.Insert(q, record{[]string{"long"}, func() int { return 16 }})
	records.Insert(p, record{[]string{"short"}, func() int { return 8 }})
	if x, ok := records.Get(p); !ok || x.names[0] != "short" || x.call() != 8 {
		t.Errorf("Get does not return the record of %s", text(p))
	}
	if r, x, ok := records.Lookup(a); r != q || !ok || x.names[0] != "long" || x.call() != 16 {
		t.Errorf("Lookup does not return the record of %s", text(q))
	}
	records.Delete(q)
	if x, ok := records.Get(q); ok || x.names != nil || x.call != nil {
		t.Errorf("Get returns a record of %s, which was deleted", text(q))
	}
	if _, x, ok := records.Lookup(addr(t, "::1")); ok || x.names != nil || x.call != nil {
		t.Errorf("Lookup returns a record although no prefix contains the address")
	}

	pointers := New[*int]()
	n := 4
	pointers.Insert(p, &n)
	if x, ok := pointers.Get(p); x != &n || !ok {
		t.Errorf("Get does not return the stored pointer")
	}

	empty := New[struct{}]()
	empty.Insert(p, struct{}{})
	if _, ok := empty.Get(p); !ok || empty.Len() != 1 || empty.Delete(q) || !empty.Delete(p) {
		t.Errorf("an empty struct is no value")
	}

	inner, outer := New[int](), New[*Trie[int]]()
	inner.Insert(q, 5)
	outer.Insert(p, inner)
	if _, x, _ := outer.Lookup(a); x != inner || x.Len() != 1 {
		t.Errorf("Lookup does not return the stored trie")
	}
}

// R10: zero values and values that differ from themselves are values like any other.
func TestValuesAreNotInspected(t *testing.T) {
	l := prefixes(t, "0.0.0.0/0", "10.0.0.0/8", "10.0.0.0/9", "::/0", "2001:db8::/32")
	values := New[any]()
	for i, x := range []any{nil, math.NaN(), []int{1}, 0, error(nil)} {
		if !values.Insert(l[i], x) || values.Len() != i+1 {
			t.Errorf("Len() = %d after the Insert of %v", values.Len(), x)
		}
	}
	if got := values.Prefixes(); !slices.Equal(got, l) {
		t.Errorf("Prefixes() = %s", texts(got))
	}
	if x, ok := values.Get(l[0]); x != nil || !ok {
		t.Errorf("Get(%s) = %v, %v", text(l[0]), x, ok)
	}
	if x, ok := values.Get(l[1]); !ok || !math.IsNaN(x.(float64)) {
		t.Errorf("Get(%s) = %v, %v", text(l[1]), x, ok)
	}
	if q, x, ok := values.Lookup(addr(t, "10.1.2.3")); q != l[2] || !ok || x.([]int)[0] != 1 {
		t.Errorf("Lookup(10.1.2.3) = %s, %v, %v", text(q), x, ok)
	}
	if q, x, ok := values.Lookup(addr(t, "2001:db8::1")); q != l[4] || x != nil || !ok {
		t.Errorf("Lookup(2001:db8::1) = %s, %v, %v", text(q), x, ok)
	}
	numbers := New[int]()
	numbers.Insert(l[1], 7)
	numbers.Insert(l[1], 0)
	if x, ok := numbers.Get(l[1]); x != 0 || !ok || numbers.Len() != 1 {
		t.Errorf("Get(%s) = %d, %v after 0 replaced 7", text(l[1]), x, ok)
	}
}

// R3 speaks of slices that are arguments of the document's functions; a slice that is a value is stored as it is (R10).
func TestSlicesAreStoredAsTheyAre(t *testing.T) {
	x, p := New[[]int](), prefix(t, "10.0.0.0/8")
	l := []int{1, 2}
	x.Insert(p, l)
	l[0] = 7
	if got, ok := x.Get(p); !ok || len(got) != 2 || got[0] != 7 {
		t.Errorf("Get returns %v, a copy of the stored slice", got)
	}
}

// A value that is an array or a struct is the trie's own: what Get and Lookup return is a copy of it.
func TestReturnedValuesAreCopies(t *testing.T) {
	x, p := New[[2]int](), prefix(t, "10.0.0.0/8")
	in := [2]int{1, 2}
	x.Insert(p, in)
	in[0] = 7
	got, _ := x.Get(p)
	got[0] = 8
	_, found, _ := x.Lookup(p.Addr)
	found[0] = 9
	if got, ok := x.Get(p); got != [2]int{1, 2} || !ok {
		t.Errorf("Get = %v, %v, want [1 2]", got, ok)
	}
}

// The section "Examples" of the chapter.

func TestExample(t *testing.T) {
	x := New[string]()
	x.Insert(prefix(t, "10.0.0.0/8"), "a")
	x.Insert(prefix(t, "10.1.0.0/16"), "b")
	if p, v, ok := x.Lookup(ip.V4(10, 1, 2, 3)); p != prefix(t, "10.1.0.0/16") || v != "b" || !ok {
		t.Errorf("Lookup(10.1.2.3) = %s, %q, %v, want 10.1.0.0/16, b", text(p), v, ok)
	}
	if p, v, ok := x.Lookup(ip.V4(10, 2, 0, 0)); p != prefix(t, "10.0.0.0/8") || v != "a" || !ok {
		t.Errorf("Lookup(10.2.0.0) = %s, %q, %v, want 10.0.0.0/8, a", text(p), v, ok)
	}
}
