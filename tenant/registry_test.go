package tenant

import (
	"math"
	"slices"
	"strings"
	"testing"

	"ginnel/acl"
	"ginnel/api"
	"ginnel/budget"
)

func wantAuthenticated(t *testing.T, x *Registry, user, password string, want int) {
	t.Helper()
	if i, ok := x.Authenticate(user, password); i != want || !ok {
		t.Errorf("Authenticate(%q, %q) = %d, %v, want %d, true", user, password, i, ok, want)
	}
}

func wantRefused(t *testing.T, x *Registry, user, password string) {
	t.Helper()
	if i, ok := x.Authenticate(user, password); i != 0 || ok {
		t.Errorf("Authenticate(%q, %q) = %d, %v, want 0, false", user, password, i, ok)
	}
}

func wantActive(t *testing.T, x *Registry, i, want int) {
	t.Helper()
	if got := x.Active(i); got != want {
		t.Errorf("Active(%d) = %d, want %d", i, got, want)
	}
}

func wantAcquire(t *testing.T, x *Registry, i int, want bool) {
	t.Helper()
	if got := x.Acquire(i); got != want {
		t.Errorf("Acquire(%d) = %v, want %v", i, got, want)
	}
}

func wantRelease(t *testing.T, x *Registry, i int, want bool) {
	t.Helper()
	if got := x.Release(i); got != want {
		t.Errorf("Release(%d) = %v, want %v", i, got, want)
	}
}

// wantAcquires takes tenant i, which has no active session, up to its limit of n, and tries once more.
func wantAcquires(t *testing.T, x *Registry, i, n int) {
	t.Helper()
	for k := range n {
		wantAcquire(t, x, i, true)
		wantActive(t, x, i, k+1)
	}
	wantAcquire(t, x, i, false)
	wantActive(t, x, i, n)
}

// wantReleases takes tenant i, which has n active sessions, down to none, and tries once more.
func wantReleases(t *testing.T, x *Registry, i, n int) {
	t.Helper()
	for k := range n {
		wantRelease(t, x, i, true)
		wantActive(t, x, i, n-k-1)
	}
	wantRelease(t, x, i, false)
	wantActive(t, x, i, 0)
}

// wantRule expects rule want of tenant i to decide on the name and port 5.
func wantRule(t *testing.T, x *Registry, i int, name string, want int) {
	t.Helper()
	rules := x.ACL(i)
	if rules == nil {
		t.Fatalf("tenant %d has no access control list", i)
	}
	if got := rules.MatchName(name, 5); got != want {
		t.Errorf("rule %d of tenant %d decides on %q, want %d", got, i, name, want)
	}
}

// absent returns indices at which a registry of n tenants has none.
func absent(n int) []int {
	return []int{-1, -2, -n, -100, math.MinInt, n, n + 1, api.MaxTenants, 99, 1 << 32, math.MaxInt}
}

// P14.2: Authenticate

func TestAuthenticateEachTenant(t *testing.T) {
	l := people(api.MaxTenants)
	x := build(t, l...)
	for i, one := range l {
		for j, other := range l {
			if i == j {
				wantAuthenticated(t, x, one.User, other.Password, i)
			} else {
				wantRefused(t, x, one.User, other.Password)
			}
		}
		wantRefused(t, x, one.Password, one.User)
	}
}

func TestAuthenticateOfOtherCredentials(t *testing.T) {
	x := build(t, someone("ann", "secret"), someone("bob", "b"))
	for _, c := range [][2]string{
		{"ann", "b"}, {"bob", "secret"}, // another tenant's password
		{"eve", "secret"}, {"eve", "b"}, {"eve", "evil"}, // an unknown user
		{"", ""}, {"ann", ""}, {"", "secret"}, {"bob", ""}, {"", "b"},
		{"Ann", "secret"}, {"ANN", "secret"}, {"ann", "Secret"}, {"ann", "SECRET"}, {"bob", "B"},
		{"ann ", "secret"}, {" ann", "secret"}, {"ann", "secret "}, {"ann", " secret"},
		{"an", "secret"}, {"anna", "secret"}, {"ann", "secre"}, {"ann", "secrets"},
		{"ann\x00", "secret"}, {"ann", "secret\x00"},
		{"secret", "ann"}, {"ann", "ann"}, {"secret", "secret"},
		{"ann:secret", ""}, {"ann:", "secret"}, {"ann", ":secret"}, {"annsecret", ""}, {"anns", "ecret"},
		{strings.Repeat("x", 1<<16), "secret"}, {"ann", strings.Repeat("x", 1<<16)},
	} {
		wantRefused(t, x, c[0], c[1])
	}
	wantAuthenticated(t, x, "ann", "secret", 0)
	wantAuthenticated(t, x, "bob", "b", 1)
}

func TestAuthenticateTellsAlikeUsersApart(t *testing.T) {
	x := build(t, someone("ann", "a"), someone("Ann", "a"), someone("ann ", "a"), someone("a", "ann"), someone("b", "b"))
	wantAuthenticated(t, x, "ann", "a", 0)
	wantAuthenticated(t, x, "Ann", "a", 1)
	wantAuthenticated(t, x, "ann ", "a", 2)
	wantAuthenticated(t, x, "a", "ann", 3)
	wantAuthenticated(t, x, "b", "b", 4)
	wantRefused(t, x, "a", "a")
	wantRefused(t, x, "aNN", "a")
}

func TestAuthenticateOfUnusualCredentials(t *testing.T) {
	long := strings.Repeat("x", api.MaxCredential)
	x := build(t, someone(long, long), someone("\x00\xff", ":\x00:"), someone("é", "\xff"))
	wantAuthenticated(t, x, long, long, 0)
	wantAuthenticated(t, x, "\x00\xff", ":\x00:", 1)
	wantAuthenticated(t, x, "é", "\xff", 2)
	for _, c := range [][2]string{{long[1:], long}, {long, long[1:]}, {long + "x", long}, {long, long + "x"}, {"\x00", ":\x00:"}, {"\x00\xff", ":"}, {"e\u0301", "\xff"}, {"é", "\ufffd"}} {
		wantRefused(t, x, c[0], c[1])
	}
}

// A colon belongs to the password, whatever else stands before it.
func TestAuthenticateOfAPasswordWithAColon(t *testing.T) {
	x := build(t, someone("ann", "x:y"), someone("bob", ":"))
	wantAuthenticated(t, x, "ann", "x:y", 0)
	wantAuthenticated(t, x, "bob", ":", 1)
	for _, c := range [][2]string{{"ann:x", "y"}, {"ann", "x"}, {"ann", "y"}, {"ann", "xy"}, {"ann", "x:y:"}, {"ann", ":x:y"}, {"bob:", ""}, {"bob", ""}, {"bob", "::"}} {
		wantRefused(t, x, c[0], c[1])
	}
}

// A tenant may authenticate as often as it likes, also without a session left: only Acquire counts.
func TestAuthenticateChangesNothing(t *testing.T) {
	x := build(t, withSessions(1, 2)...)
	for range 5 {
		wantAuthenticated(t, x, "u0", "p0", 0)
		wantRefused(t, x, "u0", "p1")
		wantActive(t, x, 0, 0)
	}
	wantAcquires(t, x, 0, 1)
	wantAuthenticated(t, x, "u0", "p0", 0)
	wantActive(t, x, 0, 1)
	wantUnusedBudget(t, x.Budget(0))
}

func wantUnusedBudget(t *testing.T, b *budget.Budget) {
	t.Helper()
	if b == nil || b.Used() != 0 || b.Window() != 0 {
		t.Errorf("the budget %v is not unused", b)
	}
}

// P14.2: ACL and Budget

func TestTheSameObjectsOnEveryCall(t *testing.T) {
	x := build(t, people(api.MaxTenants)...)
	lists, budgets := map[*acl.ACL]int{}, map[*budget.Budget]int{}
	for range 3 {
		for i := range x.Len() {
			lists[x.ACL(i)]++
			budgets[x.Budget(i)]++
			x.Budget(i).Charge(uint64(i))
			x.Acquire(i)
			x.Release(i)
		}
	}
	if lists[nil] > 0 || budgets[nil] > 0 {
		t.Error("a tenant has no access control list or no budget")
	}
	if len(lists) != api.MaxTenants || len(budgets) != api.MaxTenants {
		t.Errorf("%d tenants have %d access control lists and %d budgets", api.MaxTenants, len(lists), len(budgets))
	}
}

func TestEachTenantHasItsOwnRules(t *testing.T) {
	l := people(3)
	l[0].Rules = []api.Rule{{Allow: true, Suffix: "a.b", PortMin: 0, PortMax: 9}, {Suffix: "c.d", PortMin: 0, PortMax: 9}}
	l[2].Rules = []api.Rule{{Suffix: "c.d", PortMin: 0, PortMax: 9}, {Suffix: "a.b", PortMin: 0, PortMax: 4}}
	x := build(t, l...)
	for _, c := range []struct {
		name string
		want [3]int
	}{
		{"a.b", [3]int{0, -1, -1}}, {"c.d", [3]int{1, -1, 0}}, {"e.f", [3]int{-1, -1, -1}},
	} {
		for i, want := range c.want {
			wantRule(t, x, i, c.name, want)
		}
	}
	if !x.ACL(0).AllowsName("a.b", 5) || x.ACL(0).AllowsName("c.d", 5) || x.ACL(2).AllowsName("c.d", 5) {
		t.Error("the fields Allow of the rules are not those of the configuration")
	}
}

func TestEachTenantHasItsOwnBudget(t *testing.T) {
	l := people(3)
	l[0].Budget, l[0].Window = 2, 10
	l[1].Budget, l[1].Window = 0, 1
	l[2].Budget, l[2].Window = api.MaxBudget, api.MaxTimeout
	x := build(t, l...)
	wantUnused(t, x, 0, 2, 10)
	wantUnused(t, x, 1, 0, 1)
	wantUnused(t, x, 2, api.MaxBudget, api.MaxTimeout)
	for _, want := range []bool{true, true, false} {
		if got := x.Budget(0).Charge(35); got != want {
			t.Errorf("tenant 0 may start an attempt: %v, want %v", got, want)
		}
	}
	if b := x.Budget(0); b.Used() != 2 || b.Window() != 3 {
		t.Errorf("tenant 0 has used %d charges of window %d, want 2 of 3", b.Used(), b.Window())
	}
	wantUnused(t, x, 1, 0, 1)
	wantUnused(t, x, 2, api.MaxBudget, api.MaxTimeout)
	if x.Budget(1).Charge(0) || !x.Budget(2).Charge(0) {
		t.Error("tenant 1 may start an attempt or tenant 2 may not")
	}
}

// P14.2: indices without a tenant

func TestIndicesWithoutATenant(t *testing.T) {
	for _, n := range []int{1, 2, 3, api.MaxTenants} {
		x := build(t, people(n)...)
		for _, i := range absent(n) {
			if x.ACL(i) != nil || x.Budget(i) != nil {
				t.Errorf("tenant %d of %d has an access control list or a budget", i, n)
			}
			wantAcquire(t, x, i, false)
			wantRelease(t, x, i, false)
			wantActive(t, x, i, 0)
		}
		for i := range n {
			wantUnused(t, x, i, 5, 10)
			wantAcquires(t, x, i, 1)
		}
	}
}

func TestIndicesWithoutATenantBesideActiveSessions(t *testing.T) {
	x := build(t, withSessions(2, 2)...)
	wantAcquire(t, x, 0, true)
	wantAcquire(t, x, 1, true)
	for _, i := range absent(2) {
		wantAcquire(t, x, i, false)
		wantRelease(t, x, i, false)
		wantActive(t, x, i, 0)
	}
	wantActive(t, x, 0, 1)
	wantActive(t, x, 1, 1)
}

// P14.2: Acquire, Release and Active

func TestAcquireUpToTheLimitAndReleaseDownToNone(t *testing.T) {
	for _, n := range []int{1, 2, 3, 63, api.MaxSessions} {
		x := build(t, withSessions(n)...)
		wantRelease(t, x, 0, false)
		for range 3 {
			wantAcquires(t, x, 0, n)
			wantAcquire(t, x, 0, false)
			wantReleases(t, x, 0, n)
			wantRelease(t, x, 0, false)
		}
	}
}

func TestASessionThatIsReleasedMayBeAcquired(t *testing.T) {
	x := build(t, withSessions(3)...)
	wantAcquires(t, x, 0, 3)
	for range 5 {
		wantRelease(t, x, 0, true)
		wantActive(t, x, 0, 2)
		wantAcquire(t, x, 0, true)
		wantAcquire(t, x, 0, false)
		wantActive(t, x, 0, 3)
	}
	wantRelease(t, x, 0, true)
	wantRelease(t, x, 0, true)
	wantAcquire(t, x, 0, true)
	wantAcquire(t, x, 0, true)
	wantAcquire(t, x, 0, false)
}

func TestTenantsDoNotAffectEachOther(t *testing.T) {
	limits := []int{1, 3, api.MaxSessions, 2, 1, 5, 4, 63}
	x := build(t, withSessions(limits...)...)
	for i, n := range limits {
		wantAcquires(t, x, i, n)
		for j, other := range limits {
			if j <= i {
				wantActive(t, x, j, other)
			} else {
				wantActive(t, x, j, 0)
			}
		}
	}
	for i, n := range limits {
		wantReleases(t, x, i, n)
		for j, other := range limits {
			if j <= i {
				wantActive(t, x, j, 0)
			} else {
				wantActive(t, x, j, other)
			}
		}
	}
}

// All tenants together may have more sessions than the proxy, whose limit is not this layer's.
func TestSessionsOfAllTenantsTogether(t *testing.T) {
	x := build(t, withSessions(64, 64, 64, 64, 64, 64, 64, 64)...)
	for i := range x.Len() {
		wantAcquires(t, x, i, api.MaxSessions)
	}
}

// P14.2 against a plain model

type draws uint64

func (d *draws) below(n int) int {
	*d = *d*6364136223846793005 + 1442695040888963407
	return int(uint64(*d>>33) % uint64(n))
}

// ledger keeps a list of the sessions themselves, by the index of their tenant, instead of numbers.
type ledger struct {
	limits   []int
	sessions []int
}

func (l *ledger) active(i int) int {
	n := 0
	for _, s := range l.sessions {
		if s == i {
			n++
		}
	}
	return n
}

func (l *ledger) acquire(i int) bool {
	if i < 0 || i >= len(l.limits) || l.active(i) == l.limits[i] {
		return false
	}
	l.sessions = append(l.sessions, i)
	return true
}

func (l *ledger) release(i int) bool {
	for k, s := range l.sessions {
		if s == i {
			l.sessions = append(l.sessions[:k], l.sessions[k+1:]...)
			return true
		}
	}
	return false
}

func TestAgainstLedger(t *testing.T) {
	d := draws(14)
	for range 100 {
		var limits []int
		for range 1 + d.below(api.MaxTenants) {
			limits = append(limits, 1+d.below(4))
		}
		x, l := build(t, withSessions(limits...)...), &ledger{limits: limits}
		for range 200 {
			i := d.below(len(limits)+2) - 1
			if d.below(5) < 3 {
				wantAcquire(t, x, i, l.acquire(i))
			} else {
				wantRelease(t, x, i, l.release(i))
			}
			for j := -1; j <= len(limits); j++ {
				wantActive(t, x, j, l.active(j))
			}
		}
		if t.Failed() {
			t.Fatalf("a registry with the limits %v differs", limits)
		}
	}
}

// The section "Consequences" of the chapter

func TestATenantNeverHasMoreActiveSessionsThanItsLimit(t *testing.T) {
	limits := []int{1, 2, 7, api.MaxSessions}
	x := build(t, withSessions(limits...)...)
	most := make([]int, len(limits))
	d := draws(1414)
	for range 5000 {
		i := d.below(len(limits))
		if d.below(8) > 0 {
			x.Acquire(i)
		} else {
			x.Release(i)
		}
		most[i] = max(most[i], x.Active(i))
	}
	if !slices.Equal(most, limits) {
		t.Errorf("the tenants had up to %v active sessions, want %v", most, limits)
	}
}

// The section "Examples" of the chapter

func TestExample(t *testing.T) {
	x := build(t, someone("ann", "secret"))
	wantAuthenticated(t, x, "ann", "secret", 0)
	wantAcquire(t, x, 0, true)
	wantAcquire(t, x, 0, false)
}
