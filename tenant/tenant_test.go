package tenant

import (
	"math"
	"slices"
	"strconv"
	"strings"
	"testing"

	"ginnel/api"
)

// someone returns a valid tenant with one active session at most.
func someone(user, password string) api.Tenant {
	return api.Tenant{User: user, Password: password, Budget: 5, Window: 10, MaxSessions: 1}
}

// people returns n valid tenants with the users u0, u1 and so on, and the passwords p0, p1 and so on.
func people(n int) []api.Tenant {
	var l []api.Tenant
	for i := range n {
		l = append(l, someone("u"+strconv.Itoa(i), "p"+strconv.Itoa(i)))
	}
	return l
}

// withSessions returns valid tenants that may have these numbers of active sessions.
func withSessions(limits ...int) []api.Tenant {
	l := people(len(limits))
	for i, n := range limits {
		l[i].MaxSessions = n
	}
	return l
}

// build returns the registry of the given tenants, which are valid and have different users.
func build(t *testing.T, l ...api.Tenant) *Registry {
	t.Helper()
	x, e := New(l)
	if x == nil || e != api.OK {
		t.Fatalf("New of %d tenants returns %v, want a registry", len(l), e)
	}
	return x
}

func wantError(t *testing.T, what string, l []api.Tenant, want api.Errno) {
	t.Helper()
	if x, e := New(l); x != nil || e != want {
		t.Errorf("New of %s returns a registry: %v, and error %d; want none and %d", what, x != nil, e, want)
	}
}

// wantValid holds Valid against want, and New of a list with this tenant alone, too.
func wantValid(t *testing.T, what string, one api.Tenant, want bool) {
	t.Helper()
	if got := Valid(one); got != want {
		t.Errorf("Valid of a tenant with %s = %v, want %v", what, got, want)
	}
	if want {
		build(t, one)
	} else {
		wantError(t, "a tenant with "+what, []api.Tenant{one}, api.ErrInvalid)
	}
}

// P14.1: Valid

func TestValidOfOrdinaryTenants(t *testing.T) {
	wantValid(t, "all that it needs", someone("ann", "secret"), true)
	wantValid(t, "a user that is the password", someone("ann", "ann"), true)
	wantValid(t, "nothing", api.Tenant{}, false)
	full := someone("ann", "secret")
	full.Rules = []api.Rule{
		{Allow: true, Prefix: api.Prefix{Bits: 0}, PortMin: 443, PortMax: 443},
		{Allow: false, Suffix: "example.org", PortMin: 0, PortMax: 65535},
	}
	wantValid(t, "two rules", full, true)
}

func TestValidOfSizesOfCredentials(t *testing.T) {
	for _, c := range []struct {
		size int
		want bool
	}{
		{0, false}, {1, true}, {2, true}, {254, true},
		{api.MaxCredential, true}, {api.MaxCredential + 1, false}, {api.MaxCredential + 2, false},
		{2 * api.MaxCredential, false}, {1 << 16, false}, {1<<16 + 1, false},
	} {
		text := strings.Repeat("x", c.size)
		wantValid(t, "a user of "+strconv.Itoa(c.size)+" bytes", someone(text, "secret"), c.want)
		wantValid(t, "a password of "+strconv.Itoa(c.size)+" bytes", someone("ann", text), c.want)
		wantValid(t, "a user and a password of "+strconv.Itoa(c.size)+" bytes", someone(text, text), c.want)
	}
	wantValid(t, "neither user nor password", someone("", ""), false)
}

// The bound is on bytes, not on characters.
func TestValidCountsBytes(t *testing.T) {
	fits, tooLong := strings.Repeat("ä", 127)+"x", strings.Repeat("ä", 128)
	wantValid(t, "a user of 127 characters of two bytes and one of one", someone(fits, "secret"), true)
	wantValid(t, "a password of 127 characters of two bytes and one of one", someone("ann", fits), true)
	wantValid(t, "a user of 128 characters of two bytes", someone(tooLong, "secret"), false)
	wantValid(t, "a password of 128 characters of two bytes", someone("ann", tooLong), false)
}

func TestValidOfColons(t *testing.T) {
	long := strings.Repeat("x", api.MaxCredential-1)
	for _, s := range []string{":", "::", ":ann", "a:nn", "an:n", "ann:", ":ann:", "ann:secret", ":" + long, long + ":"} {
		wantValid(t, "the user "+strconv.Quote(s), someone(s, "secret"), false)
		wantValid(t, "the password "+strconv.Quote(s), someone("ann", s), true)
	}
	wantValid(t, "a colon that makes the password too long", someone("ann", ":x"+long), false)
}

// Credentials are byte sequences: whatever is not a colon may be in a user.
func TestValidOfAllBytes(t *testing.T) {
	for b := range 256 {
		s := string([]byte{byte(b)})
		for _, text := range []string{s, s + "x", "x" + s, "x" + s + "x"} {
			wantValid(t, "the user "+strconv.Quote(text), someone(text, "secret"), b != ':')
			wantValid(t, "the password "+strconv.Quote(text), someone("ann", text), true)
		}
	}
	wantValid(t, "a wide colon", someone("ann：", "secret"), true)
}

func TestValidOfRules(t *testing.T) {
	good := api.Rule{Allow: true, Suffix: "example.org", PortMin: 0, PortMax: 65535}
	bad := api.Rule{PortMin: 1}
	for _, c := range []struct {
		what string
		l    []api.Rule
		want bool
	}{
		{"no rules", []api.Rule{}, true},
		{"a zero rule", []api.Rule{{}}, true},
		{"a name rule", []api.Rule{good}, true},
		{"the same rule twice", []api.Rule{good, good}, true},
		{"a range of ports that ends before it starts", []api.Rule{bad}, false},
		{"a port below 0", []api.Rule{{PortMin: -1}}, false},
		{"a port above 65535", []api.Rule{{PortMax: 65536}}, false},
		{"a suffix that is no name", []api.Rule{{Suffix: "a..b"}}, false},
		{"a suffix and a prefix", []api.Rule{{Suffix: "a.b", Prefix: api.Prefix{Bits: 8}}}, false},
		{"a prefix that is not valid", []api.Rule{{Prefix: api.Prefix{Bits: 33}}}, false},
		{"a bad rule before a good one", []api.Rule{bad, good}, false},
		{"a bad rule after a good one", []api.Rule{good, bad}, false},
		{"31 rules", make([]api.Rule, api.MaxRules-1), true},
		{"32 rules", make([]api.Rule, api.MaxRules), true},
		{"33 rules", make([]api.Rule, api.MaxRules+1), false},
		{"32 rules, the last of them bad", append(make([]api.Rule, api.MaxRules-1), bad), false},
	} {
		one := someone("ann", "secret")
		one.Rules = c.l
		wantValid(t, c.what, one, c.want)
	}
}

func TestValidOfBudgets(t *testing.T) {
	for _, c := range []struct {
		n    int
		want bool
	}{
		{math.MinInt, false}, {-1000, false}, {-1, false},
		{0, true}, {1, true}, {999, true}, {api.MaxBudget, true},
		{api.MaxBudget + 1, false}, {1 << 32, false}, {math.MaxInt, false},
	} {
		one := someone("ann", "secret")
		one.Budget = c.n
		wantValid(t, "the budget "+strconv.Itoa(c.n), one, c.want)
	}
}

func TestValidOfWindows(t *testing.T) {
	for _, c := range []struct {
		width uint64
		want  bool
	}{
		{0, false},
		{1, true}, {2, true}, {api.MaxTimeout - 1, true}, {api.MaxTimeout, true},
		{api.MaxTimeout + 1, false}, {1 << 63, false}, {api.MaxTick, false},
	} {
		for _, n := range []int{0, 1, api.MaxBudget} {
			one := someone("ann", "secret")
			one.Budget, one.Window = n, c.width
			wantValid(t, "the window "+strconv.FormatUint(c.width, 10), one, c.want)
		}
	}
}

func TestValidOfNumbersOfSessions(t *testing.T) {
	for _, c := range []struct {
		n    int
		want bool
	}{
		{math.MinInt, false}, {-64, false}, {-1, false}, {0, false},
		{1, true}, {2, true}, {63, true}, {api.MaxSessions, true},
		{api.MaxSessions + 1, false}, {1<<32 + 1, false}, {math.MaxInt, false},
	} {
		one := someone("ann", "secret")
		one.MaxSessions = c.n
		wantValid(t, strconv.Itoa(c.n)+" sessions", one, c.want)
	}
}

// P14.1: New

func TestNewOfNumbersOfTenants(t *testing.T) {
	for n := 1; n <= api.MaxTenants; n++ {
		x := build(t, people(n)...)
		if got := x.Len(); got != n {
			t.Errorf("Len() = %d, want %d", got, n)
		}
		for i := range n {
			wantUnused(t, x, i, 5, 10)
		}
	}
	wantError(t, "a nil list", nil, api.ErrInvalid)
	wantError(t, "an empty list", []api.Tenant{}, api.ErrInvalid)
	wantError(t, "9 tenants", people(api.MaxTenants+1), api.ErrInvalid)
	wantError(t, "100 tenants", people(100), api.ErrInvalid)
}

// wantUnused checks that tenant i has no active session and a budget of n charges per window of which none is used.
func wantUnused(t *testing.T, x *Registry, i, n int, width uint64) {
	t.Helper()
	wantActive(t, x, i, 0)
	b := x.Budget(i)
	if b == nil {
		t.Fatalf("tenant %d has no budget", i)
	}
	if b.Used() != 0 || b.Window() != 0 {
		t.Errorf("tenant %d begins with %d charges of window %d, want 0 of 0", i, b.Used(), b.Window())
	}
	if got := b.Remaining(width - 1); got != n {
		t.Errorf("tenant %d begins with %d charges left, want %d", i, got, n)
	}
}

// invalidTenants returns a tenant for each way of not being valid.
func invalidTenants() []api.Tenant {
	l := people(8)
	l[0].User = ""
	l[1].User = "u:1"
	l[2].Password = ""
	l[3].Rules = []api.Rule{{PortMin: 1}}
	l[4].Budget = -1
	l[5].Window = 0
	l[6].MaxSessions = 0
	l[7].Password = strings.Repeat("x", api.MaxCredential+1)
	return l
}

func TestNewOfATenantThatIsNotValid(t *testing.T) {
	for _, bad := range invalidTenants() {
		for n := 1; n <= api.MaxTenants; n++ {
			for i := range n {
				l := people(n)
				l[i] = bad
				wantError(t, strconv.Itoa(n)+" tenants with an invalid one at "+strconv.Itoa(i), l, api.ErrInvalid)
			}
		}
	}
	wantError(t, "invalid tenants alone", invalidTenants(), api.ErrInvalid)
}

func TestNewOfTheSameUserTwice(t *testing.T) {
	for n := 2; n <= api.MaxTenants; n++ {
		for i := range n {
			for j := range i {
				l := people(n)
				l[i].User = l[j].User
				wantError(t, "tenants "+strconv.Itoa(j)+" and "+strconv.Itoa(i)+" with the same user", l, api.ErrDuplicate)
				l[i].Password = l[j].Password
				wantError(t, "the same credentials twice", l, api.ErrDuplicate)
			}
		}
	}
	wantError(t, "the same user thrice", []api.Tenant{someone("a", "1"), someone("a", "2"), someone("a", "3")}, api.ErrDuplicate)
	wantError(t, "two users twice", []api.Tenant{someone("a", "1"), someone("b", "1"), someone("b", "2"), someone("a", "2")}, api.ErrDuplicate)
	other := someone("a", "1")
	other.Rules, other.Budget, other.Window, other.MaxSessions = []api.Rule{{}}, 9, 9, 9
	wantError(t, "the same user with another configuration", []api.Tenant{someone("a", "1"), other}, api.ErrDuplicate)
}

// Users are compared bytewise, and nothing but users makes a duplicate.
func TestNewOfUsersThatAreAlike(t *testing.T) {
	x := build(t, someone("ann", "secret"), someone("Ann", "secret"), someone("ANN", "secret"), someone("ann ", "secret"),
		someone("anna", "secret"), someone("an", "secret"), someone("ann\x00", "secret"), someone("secret", "ann"))
	if got := x.Len(); got != 8 {
		t.Errorf("Len() = %d, want 8", got)
	}
	long := strings.Repeat("x", api.MaxCredential-1)
	build(t, someone(long+"a", "secret"), someone(long+"b", "secret"), someone(long, "secret"))
	wantError(t, "the same long user twice", []api.Tenant{someone(long+"a", "1"), someone(long+"a", "2")}, api.ErrDuplicate)
}

func TestErrInvalidComesFirst(t *testing.T) {
	a, b := someone("a", "1"), someone("a", "2")
	for _, bad := range invalidTenants() {
		wantError(t, "a duplicate before an invalid tenant", []api.Tenant{a, b, bad}, api.ErrInvalid)
		wantError(t, "a duplicate around an invalid tenant", []api.Tenant{a, bad, b}, api.ErrInvalid)
		wantError(t, "a duplicate after an invalid tenant", []api.Tenant{bad, a, b}, api.ErrInvalid)
		wantError(t, "the same invalid tenant twice", []api.Tenant{bad, bad}, api.ErrInvalid)
	}
	wantError(t, "a duplicate that is not valid", []api.Tenant{a, someone("a", "")}, api.ErrInvalid)
	wantError(t, "9 tenants with a duplicate", append(people(api.MaxTenants), people(1)...), api.ErrInvalid)
	wantError(t, "9 tenants that are the same", slices.Repeat([]api.Tenant{a}, api.MaxTenants+1), api.ErrInvalid)
	wantError(t, "8 tenants that are the same", slices.Repeat([]api.Tenant{a}, api.MaxTenants), api.ErrDuplicate)
}

func TestNewLeavesItsArgumentsAlone(t *testing.T) {
	rules := make([]api.Rule, 2, 4)
	rules[0] = api.Rule{Allow: true, Suffix: "a.b", PortMin: 1, PortMax: 9}
	spareRule := api.Rule{Suffix: "spare"}
	rules[:3][2] = spareRule
	l := make([]api.Tenant, 2, 4)
	copy(l, people(3)[:2])
	l[1].Rules = rules
	l[:3][2] = someone("spare", "spare")
	if !Valid(l[1]) {
		t.Error("the tenant is not valid")
	}
	build(t, l...)
	if l[0].User != "u0" || l[0].Rules != nil || l[1].User != "u1" || l[1].Password != "p1" || l[1].Budget != 5 || l[1].Window != 10 || l[1].MaxSessions != 1 {
		t.Errorf("New changed its list to %#v", l)
	}
	if l[:3][2].User != "spare" || l[:3][2].Password != "spare" {
		t.Errorf("New changed what follows its list to %#v", l[:3][2])
	}
	if len(l[1].Rules) != 2 || &l[1].Rules[0] != &rules[0] || rules[0].Suffix != "a.b" || rules[1] != (api.Rule{}) || rules[:3][2] != spareRule {
		t.Errorf("New changed the rules to %#v", rules[:3])
	}
}

func TestNewKeepsCopies(t *testing.T) {
	l := withSessions(2, 3)
	l[0].Rules = []api.Rule{{Allow: true, Suffix: "a.b", PortMin: 1, PortMax: 9}}
	x := build(t, l...)
	if kept := x.find(0).Rules; len(kept) > 0 && &kept[0] == &l[0].Rules[0] {
		t.Error("the registry keeps the rules of its argument")
	}
	l[0].Rules[0] = api.Rule{Suffix: "c.d", PortMin: 80, PortMax: 80}
	l[0].User, l[0].Password, l[0].Budget, l[0].Window, l[0].MaxSessions = "eve", "evil", 1000, 1, 64
	l[0].Rules = nil
	l[1] = api.Tenant{}
	wantAuthenticated(t, x, "u0", "p0", 0)
	wantAuthenticated(t, x, "u1", "p1", 1)
	wantRefused(t, x, "eve", "evil")
	wantRefused(t, x, "", "")
	wantRule(t, x, 0, "a.b", 0)
	wantRule(t, x, 0, "c.d", -1)
	wantUnused(t, x, 0, 5, 10)
	wantUnused(t, x, 1, 5, 10)
	wantAcquires(t, x, 0, 2)
	wantAcquires(t, x, 1, 3)
	if got := x.Len(); got != 2 {
		t.Errorf("Len() = %d, want 2", got)
	}
}

func TestRegistriesAreSeparate(t *testing.T) {
	l := withSessions(1, 2)
	one, other := build(t, l...), build(t, l...)
	wantAcquires(t, one, 0, 1)
	wantAcquires(t, one, 1, 2)
	one.Budget(0).Charge(25)
	wantUnused(t, other, 0, 5, 10)
	wantUnused(t, other, 1, 5, 10)
	for i := range 2 {
		if one.ACL(i) == other.ACL(i) || one.Budget(i) == other.Budget(i) {
			t.Errorf("tenant %d has an object in common with the tenant of another registry", i)
		}
	}
}

// The same rules in two tenants of a list make two access control lists.
func TestTenantsThatShareASliceOfRules(t *testing.T) {
	l := people(2)
	l[0].Rules = []api.Rule{{Suffix: "a.b", PortMin: 1, PortMax: 9}}
	l[1].Rules = l[0].Rules
	x := build(t, l...)
	if x.ACL(0) == x.ACL(1) {
		t.Error("the tenants share an access control list")
	}
	l[0].Rules[0].Suffix = "c.d"
	wantRule(t, x, 0, "a.b", 0)
	wantRule(t, x, 1, "a.b", 0)
}
