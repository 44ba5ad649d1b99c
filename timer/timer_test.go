package timer

import (
	"math"
	"slices"
	"strconv"
	"testing"

	"ginnel/api"
)

// model is the set of timers of the document, without a heap and without lists of children: a plain list that is searched from end to end.
type model struct {
	list []item
	last int
}

type item struct {
	id, parent int
	due        uint64
	value      string
}

// find returns the zero item if there is no such timer.
func (m *model) find(id int) (item, bool) {
	for _, e := range m.list {
		if e.id == id {
			return e, true
		}
	}
	return item{}, false
}

func (m *model) start(parent int, due uint64, x string) (int, bool) {
	if _, ok := m.find(parent); parent != 0 && !ok {
		return 0, false
	}
	m.last++
	m.list = append(m.list, item{m.last, parent, due, x})
	return m.last, true
}

func (m *model) deadline(id int) (uint64, bool) {
	e, ok := m.find(id)
	if !ok {
		return 0, false
	}
	above, ok := m.deadline(e.parent)
	if ok && above < e.due {
		return above, true
	}
	return e.due, true
}

func (m *model) reset(id int, due uint64) bool {
	for i := range m.list {
		if m.list[i].id == id {
			m.list[i].due = due
			return true
		}
	}
	return false
}

// below reports whether timer id is a descendant of timer top.
func (m *model) below(id, top int) bool {
	e, ok := m.find(id)
	return ok && (e.parent == top || m.below(e.parent, top))
}

func (m *model) descendants(top int) []int {
	var ids []int
	if _, ok := m.find(top); !ok {
		return nil
	}
	for _, e := range m.list {
		if m.below(e.id, top) {
			ids = append(ids, e.id)
		}
	}
	return ids
}

func (m *model) cancel(id int) int {
	if _, ok := m.find(id); !ok {
		return 0
	}
	gone := append(m.descendants(id), id)
	m.list = slices.DeleteFunc(m.list, func(e item) bool { return slices.Contains(gone, e.id) })
	return len(gone)
}

// first returns the timer with the earliest deadline, among equal ones that with the smallest handle, and its deadline. The list is in the order of the handles.
func (m *model) first() (item, uint64, bool) {
	var best item
	var at uint64
	for i, e := range m.list {
		if d, _ := m.deadline(e.id); i == 0 || d < at {
			best, at = e, d
		}
	}
	return best, at, len(m.list) > 0
}

func (m *model) expire(now uint64) (int, string, bool) {
	e, at, ok := m.first()
	if !ok || at > now {
		return 0, "", false
	}
	m.cancel(e.id)
	return e.id, e.value, true
}

// pair is a set of timers and a model that have seen the same calls.
type pair struct {
	t *testing.T
	x *Timers[string]
	m *model
}

// place describes a timer to be started.
type place struct {
	parent int
	due    uint64
}

// newPair returns a pair in which timer i is as l[i-1] says.
func newPair(t *testing.T, l ...place) pair {
	p := pair{t, New[string](), &model{}}
	for _, a := range l {
		p.start(a.parent, a.due)
	}
	return p
}

func (p pair) start(parent int, due uint64) {
	p.t.Helper()
	x := "value of " + strconv.Itoa(p.m.last+1)
	want, wantOK := p.m.start(parent, due, x)
	if got, ok := p.x.Start(parent, due, x); got != want || ok != wantOK {
		p.t.Fatalf("Start(%d, %d) = %d, %v, want %d, %v", parent, due, got, ok, want, wantOK)
	}
	p.check()
}

func (p pair) reset(id int, due uint64) {
	p.t.Helper()
	want := p.m.reset(id, due)
	if got := p.x.Reset(id, due); got != want {
		p.t.Fatalf("Reset(%d, %d) = %v, want %v", id, due, got, want)
	}
	p.check()
}

func (p pair) cancel(id int) {
	p.t.Helper()
	want := p.m.cancel(id)
	if got := p.x.Cancel(id); got != want {
		p.t.Fatalf("Cancel(%d) = %d, want %d", id, got, want)
	}
	p.check()
}

func (p pair) expire(now uint64) {
	p.t.Helper()
	want, wantX, wantOK := p.m.expire(now)
	if got, x, ok := p.x.Expire(now); got != want || x != wantX || ok != wantOK {
		p.t.Fatalf("Expire(%d) = %d, %q, %v, want %d, %q, %v", now, got, x, ok, want, wantX, wantOK)
	}
	p.check()
}

// check compares everything that the timers tell with the model.
func (p pair) check() {
	p.t.Helper()
	if got := p.x.Len(); got != len(p.m.list) {
		p.t.Fatalf("Len() = %d, want %d", got, len(p.m.list))
	}
	var ids []int
	for _, e := range p.m.list {
		ids = append(ids, e.id)
	}
	if got := p.x.Handles(); !slices.Equal(got, ids) {
		p.t.Fatalf("Handles() = %v, want %v", got, ids)
	}
	_, want, wantOK := p.m.first()
	if got, ok := p.x.NextDeadline(); got != want || ok != wantOK {
		p.t.Fatalf("NextDeadline() = %d, %v, want %d, %v", got, ok, want, wantOK)
	}
	for id := -1; id <= p.m.last+1; id++ {
		p.checkTimer(id)
	}
}

// checkTimer compares what the timers tell about one handle, whether it is in use or not.
func (p pair) checkTimer(id int) {
	p.t.Helper()
	want, wantOK := p.m.deadline(id)
	got, ok := p.x.Deadline(id)
	if got != want || ok != wantOK {
		p.t.Fatalf("Deadline(%d) = %d, %v, want %d, %v", id, got, ok, want, wantOK)
	}
	if got, want := p.x.Descendants(id), p.m.descendants(id); !slices.Equal(got, want) {
		p.t.Fatalf("Descendants(%d) = %v, want %v", id, got, want)
	}
}

// family is a tree with several depths beside another one:
//
//	1 (100) - 2 (80) - 4 (90) - 7 (60)
//	                 - 5 (40)
//	        - 3 (120) - 8 (110)
//	6 (70) - 9 (50)
var family = []place{{0, 100}, {1, 80}, {1, 120}, {2, 90}, {2, 40}, {0, 70}, {4, 60}, {3, 110}, {6, 50}}

var strangers = []int{math.MinInt, -2, -1, 0, 10, 11, math.MaxInt}

func deadlines(x *Timers[string]) []uint64 {
	var l []uint64
	for _, id := range x.Handles() {
		d, _ := x.Deadline(id)
		l = append(l, d)
	}
	return l
}

func expectDeadlines(t *testing.T, x *Timers[string], want ...uint64) {
	t.Helper()
	if got := deadlines(x); !slices.Equal(got, want) {
		t.Errorf("the deadlines are %v, want %v", got, want)
	}
}

// P3.1

func TestNoTimers(t *testing.T) {
	p := newPair(t)
	p.check()
	for _, id := range append([]int{1, 2}, strangers...) {
		p.reset(id, 5)
		p.cancel(id)
	}
	for _, now := range []uint64{0, 1, api.MaxTick} {
		p.expire(now)
	}
	p.start(0, 9)
}

func TestStartBelowAnUnknownParent(t *testing.T) {
	p := newPair(t)
	for _, parent := range []int{math.MinInt, -1, 1, 2, math.MaxInt} {
		p.start(parent, 5)
	}
	p.start(0, 5) // handle 1: the refused calls have used up none
	p.start(2, 5) // the handle that this very call would assign
	p.start(1, 5)
	p.start(4, 5)
	p.start(0, 5)
	if got := p.x.Handles(); !slices.Equal(got, []int{1, 2, 3}) {
		t.Errorf("Handles() = %v, want [1 2 3]", got)
	}
}

func TestStartBelowATimerThatIsGone(t *testing.T) {
	p := newPair(t, family...)
	p.cancel(2)
	p.expire(50) // timer 9
	for _, parent := range []int{2, 4, 5, 7, 9} {
		p.start(parent, 1)
	}
	p.start(3, 1)
	if got := p.x.Handles(); !slices.Equal(got, []int{1, 3, 6, 8, 10}) {
		t.Errorf("Handles() = %v, want [1 3 6 8 10]", got)
	}
}

func TestDeadlineIsTheEarliestOfTheAncestors(t *testing.T) {
	p := newPair(t, family...)
	expectDeadlines(t, p.x, 100, 80, 100, 80, 40, 70, 60, 100, 50)
}

func TestDeadlineBelowALaterAndAnEarlierParent(t *testing.T) {
	for _, due := range []uint64{0, 1, 49, 50, 51, 1 << 63, api.MaxTick - 1, api.MaxTick} {
		p := newPair(t, place{0, 50}, place{1, due}, place{2, 50}, place{0, due})
		expectDeadlines(t, p.x, 50, min(due, 50), min(due, 50), due)
	}
	never := newPair(t, place{0, api.MaxTick}, place{1, api.MaxTick}, place{2, 0})
	expectDeadlines(t, never.x, api.MaxTick, api.MaxTick, 0)
}

func TestResetMovesTheDeadlinesOfDescendants(t *testing.T) {
	p := newPair(t, family...)
	p.reset(1, 55)
	expectDeadlines(t, p.x, 55, 55, 55, 55, 40, 70, 55, 55, 50)
	p.reset(1, 10)
	expectDeadlines(t, p.x, 10, 10, 10, 10, 10, 70, 10, 10, 50)
	p.reset(1, 200) // the due times of the descendants apply again
	expectDeadlines(t, p.x, 200, 80, 120, 80, 40, 70, 60, 110, 50)
	p.reset(2, 300)
	expectDeadlines(t, p.x, 200, 200, 120, 90, 40, 70, 60, 110, 50)
	p.reset(7, api.MaxTick)
	expectDeadlines(t, p.x, 200, 200, 120, 90, 40, 70, 90, 110, 50)
	p.reset(4, 0)
	expectDeadlines(t, p.x, 200, 200, 120, 0, 40, 70, 0, 110, 50)
}

func TestResetEveryTimerToEveryDueTime(t *testing.T) {
	for id := range family {
		p := newPair(t, family...)
		for due := uint64(0); due <= 130; due += 5 {
			p.reset(id+1, due)
			p.reset(id+1, family[id].due)
		}
	}
}

func TestResetChangesTheOrderOfExpiry(t *testing.T) {
	p := newPair(t, place{0, 10}, place{0, 20}, place{0, 30})
	p.reset(3, 5)
	p.reset(1, 25)
	for _, want := range []int{3, 2, 1} {
		if id, _, ok := p.x.Expire(99); id != want || !ok {
			t.Errorf("Expire(99) = %d, %v, want %d, true", id, ok, want)
		}
	}
}

func TestCancelRemovesAllDepths(t *testing.T) {
	for id, want := range map[int]int{1: 7, 2: 4, 3: 2, 4: 2, 5: 1, 6: 2, 7: 1, 8: 1, 9: 1} {
		p := newPair(t, family...)
		if got := p.x.Cancel(id); got != want {
			t.Errorf("Cancel(%d) = %d, want %d", id, got, want)
		}
		p.m.cancel(id)
		p.check()
		p.cancel(id)
		p.expire(api.MaxTick)
	}
}

func TestCancelFromTheBottomToTheTop(t *testing.T) {
	p := newPair(t, family...)
	for id := len(family); id > 0; id-- {
		p.cancel(id)
	}
	p.start(0, 3)
}

// A timer whose children are all gone can have new ones.
func TestCancelledChildrenAreReplaced(t *testing.T) {
	p := newPair(t, place{0, 10}, place{1, 5})
	p.cancel(2)
	p.start(1, 7)
	p.start(3, 6)
	p.cancel(3)
	p.start(1, 8)
	if got := p.x.Descendants(1); !slices.Equal(got, []int{5}) {
		t.Errorf("Descendants(1) = %v, want [5]", got)
	}
}

func TestUnknownHandlesChangeNothing(t *testing.T) {
	p := newPair(t, family...)
	for _, id := range strangers {
		p.reset(id, 1)
		p.cancel(id)
		if got, ok := p.x.Deadline(id); got != 0 || ok {
			t.Errorf("Deadline(%d) = %d, %v, want 0, false", id, got, ok)
		}
		if got := p.x.Descendants(id); len(got) != 0 {
			t.Errorf("Descendants(%d) = %v, want none", id, got)
		}
	}
	p.cancel(2)
	p.expire(60)                              // timer 9
	for _, id := range []int{2, 4, 5, 7, 9} { // the removed ones and their descendants
		p.reset(id, 1)
		p.cancel(id)
	}
}

func TestHandlesAreNeverReused(t *testing.T) {
	p := newPair(t, place{0, 1}, place{1, 2})
	p.cancel(2)
	p.start(1, 4)
	p.expire(9)
	p.start(0, 4)
	if got := p.x.Handles(); !slices.Equal(got, []int{4}) {
		t.Errorf("Handles() = %v, want [4]", got)
	}
}

// P3.2

func TestNextDeadlineMayBeThatOfADescendant(t *testing.T) {
	p := newPair(t, family...)
	for _, want := range []uint64{40, 50, 60, 70, 80, 100} {
		if got, ok := p.x.NextDeadline(); got != want || !ok {
			t.Errorf("NextDeadline() = %d, %v, want %d, true", got, ok, want)
		}
		p.expire(want)
	}
	if p.x.Len() != 0 {
		t.Errorf("Len() = %d, want 0", p.x.Len())
	}
}

func TestExpireIsInclusive(t *testing.T) {
	for _, due := range []uint64{0, 1, 10, 1 << 63, api.MaxTick - 1, api.MaxTick} {
		p := newPair(t, place{0, due})
		if due > 0 {
			p.expire(0)
			p.expire(due - 1)
		}
		if p.x.Len() != 1 {
			t.Errorf("the timer due at %d expired too early", due)
		}
		p.expire(due)
		if p.x.Len() != 0 {
			t.Errorf("the timer due at %d did not expire at %d", due, due)
		}
	}
}

func TestExpireRemovesOneTimerACall(t *testing.T) {
	p := newPair(t, place{0, 30}, place{0, 10}, place{0, 20}, place{0, 40})
	for _, want := range []int{2, 3, 1, 0, 0} {
		n := p.x.Len()
		id, _, ok := p.x.Expire(35)
		if id != want || ok != (want != 0) || ok && p.x.Len() != n-1 {
			t.Errorf("Expire(35) = %d, %v, want %d", id, ok, want)
		}
	}
}

func TestExpireTakesEqualDeadlinesByHandle(t *testing.T) {
	p := newPair(t, place{0, 5}, place{0, 5}, place{0, 5}, place{0, 5}, place{0, 5})
	p.reset(1, 9)
	p.reset(1, 5) // a reset doesn't make a timer younger
	for want := 1; want <= 5; want++ {
		if id, _, ok := p.x.Expire(5); id != want || !ok {
			t.Errorf("Expire(5) = %d, %v, want %d, true", id, ok, want)
		}
	}
}

// All timers here have deadline 10, some of them by themselves and some by an ancestor.
func TestExpireTakesEqualDeadlinesOfAFamilyByHandle(t *testing.T) {
	for _, c := range []struct {
		l     []place
		order []int
	}{
		{[]place{{0, 10}, {1, 10}, {2, 10}}, []int{1}},
		{[]place{{0, 10}, {1, 20}, {0, 10}, {2, 10}}, []int{1, 3}},
		{[]place{{0, 10}, {0, 10}, {2, 10}, {1, 30}}, []int{1, 2}},
		{[]place{{0, 10}, {1, 99}, {2, 10}, {0, 10}, {4, 10}}, []int{1, 4}},
	} {
		p := newPair(t, c.l...)
		for _, want := range c.order {
			if id, _, ok := p.x.Expire(10); id != want || !ok {
				t.Errorf("Expire(10) = %d, %v, want %d, true, of %v", id, ok, want, c.l)
			}
		}
		if p.x.Len() != 0 {
			t.Errorf("Len() = %d, want 0, of %v", p.x.Len(), c.l)
		}
	}
}

// An earlier child expires ahead of its parent, and alone.
func TestExpireLeavesTheParent(t *testing.T) {
	p := newPair(t, place{0, 20}, place{1, 10}, place{2, 30}, place{1, 40})
	p.expire(20)
	if got := p.x.Handles(); !slices.Equal(got, []int{1, 4}) {
		t.Errorf("Handles() = %v, want [1 4]", got)
	}
	p.expire(19)
	p.expire(20)
	p.expire(20)
}

func TestExpireRemovesDescendants(t *testing.T) {
	p := newPair(t, family...)
	p.reset(2, 15)
	if id, x, ok := p.x.Expire(15); id != 2 || x != "value of 2" || !ok {
		t.Errorf("Expire(15) = %d, %q, %v, want 2, \"value of 2\", true", id, x, ok)
	}
	p.m.expire(15)
	p.check()
	if got := p.x.Handles(); !slices.Equal(got, []int{1, 3, 6, 8, 9}) {
		t.Errorf("Handles() = %v, want [1 3 6 8 9]", got)
	}
}

func TestExpireEverything(t *testing.T) {
	p := newPair(t, family...)
	for range family {
		p.expire(api.MaxTick)
	}
}

func TestDescendants(t *testing.T) {
	p := newPair(t, family...)
	for id, want := range [][]int{1: {2, 3, 4, 5, 7, 8}, 2: {4, 5, 7}, 3: {8}, 4: {7}, 5: nil, 6: {9}, 7: nil, 10: nil} {
		if got := p.x.Descendants(id); !slices.Equal(got, want) {
			t.Errorf("Descendants(%d) = %v, want %v", id, got, want)
		}
	}
}

// With many children below each timer, handles in the order of a map or of a heap would not be ascending.
func TestManyChildren(t *testing.T) {
	x := New[int]()
	root, _ := x.Start(0, 1000, 0)
	var want []int
	for i := range 300 {
		id, _ := x.Start(root, uint64(500-i), i)
		grandchild, _ := x.Start(id, uint64(i*37%101), i)
		want = append(want, id, grandchild)
	}
	if got := x.Descendants(root); !slices.Equal(got, want) {
		t.Errorf("Descendants(%d) = %v, want %v", root, got, want)
	}
	if got := x.Handles(); !slices.Equal(got, append([]int{root}, want...)) {
		t.Errorf("Handles() = %v", got)
	}
	for i := 0; i < len(want); i += 2 {
		if got := x.Cancel(want[i]); got != 2 {
			t.Errorf("Cancel(%d) = %d, want 2", want[i], got)
		}
	}
	if got := x.Descendants(root); len(got) != 0 {
		t.Errorf("Descendants(%d) = %v, want none", root, got)
	}
}

// The section "Limits" of the document allows 2^16 levels.
func TestDeepNesting(t *testing.T) {
	const depth = 1 << 16
	x := New[int]()
	over := 0
	for i := range depth {
		over, _ = x.Start(over, uint64(2*depth-i), i)
	}
	if got, ok := x.Deadline(depth); got != depth+1 || !ok {
		t.Errorf("Deadline(%d) = %d, %v, want %d, true", depth, got, ok, depth+1)
	}
	x.Reset(1, 7)
	if got, ok := x.Deadline(depth); got != 7 || !ok {
		t.Errorf("Deadline(%d) = %d, %v, want 7, true", depth, got, ok)
	}
	if got := len(x.Descendants(1)); got != depth-1 {
		t.Errorf("%d descendants, want %d", got, depth-1)
	}
	if got := x.Cancel(2); got != depth-1 {
		t.Errorf("Cancel(2) = %d, want %d", got, depth-1)
	}
	if id, v, ok := x.Expire(7); id != 1 || v != 0 || !ok || x.Len() != 0 {
		t.Errorf("Expire(7) = %d, %d, %v with %d timers left, want 1, 0, true with none", id, v, ok, x.Len())
	}
}

// A fixed recurrence stands in for chance: every run makes the same calls.
func TestManyCalls(t *testing.T) {
	state := uint64(1)
	draw := func(n int) int {
		state = state*6364136223846793005 + 1442695040888963407
		return int((state >> 33) % uint64(n))
	}
	for _, spread := range []int{1, 4, 40, 1000} {
		p := newPair(t)
		for range 400 {
			switch draw(16) {
			case 0:
				p.start(0, uint64(draw(spread)))
			case 1, 2, 3, 4, 5, 6, 7:
				p.start(draw(p.m.last+2), uint64(draw(spread)))
			case 8, 9, 10, 11, 12:
				p.reset(draw(p.m.last+2), uint64(draw(spread)))
			case 13:
				p.cancel(draw(p.m.last + 2))
			default:
				p.expire(uint64(draw(spread)))
			}
		}
	}
}

// The section "Consequences" of the chapter.

func TestDeadlineIsNeverLaterThanTheParents(t *testing.T) {
	p := newPair(t, family...)
	for step := range 100 {
		p.x.Reset(step*7%len(family)+1, uint64(step*53%131))
		for i, a := range family {
			own, _ := p.x.Deadline(i + 1)
			if above, ok := p.x.Deadline(a.parent); ok && own > above {
				t.Fatalf("Deadline(%d) = %d is later than Deadline(%d) = %d of its parent", i+1, own, a.parent, above)
			}
		}
	}
}

// R2: sets of timers do not share their timers or their handles.

func TestSetsAreIndependent(t *testing.T) {
	a, b := newPair(t, place{0, 3}, place{1, 1}), newPair(t)
	b.start(0, 2)
	a.start(2, 0)
	b.cancel(1)
	a.check()
	b.check()
}

// R3: the lists that Handles and Descendants return are the caller's.

func TestListsAreFreshMemory(t *testing.T) {
	p := newPair(t, family...)
	for _, list := range []func() []int{p.x.Handles, func() []int { return p.x.Descendants(1) }} {
		first, second := list(), list()
		want := slices.Clone(second)
		clear(first[:cap(first)])
		if !slices.Equal(second, want) {
			t.Errorf("a second list became %v, want %v", second, want)
		}
		p.check()
	}
}

// R10: values of any type, also of types that cannot be compared.

func TestAnyValueType(t *testing.T) {
	type record struct {
		names []string
		call  func() int
	}
	x := New[record]()
	x.Start(0, 2, record{[]string{"late"}, func() int { return 20 }})
	x.Start(1, 1, record{[]string{"early"}, func() int { return 10 }})
	if _, v, ok := x.Expire(0); ok || v.names != nil || v.call != nil {
		t.Errorf("Expire(0) returns a value although no timer is due")
	}
	if id, v, ok := x.Expire(2); id != 2 || !ok || v.names[0] != "early" || v.call() != 10 {
		t.Errorf("Expire(2) does not return the value of timer 2")
	}
	if id, v, ok := x.Expire(2); id != 1 || !ok || v.names[0] != "late" || v.call() != 20 {
		t.Errorf("Expire(2) does not return the value of timer 1")
	}

	values := New[any]()
	values.Start(0, 1, nil)
	values.Start(0, 1, math.NaN())
	values.Start(0, 1, []int{1})
	for _, want := range []int{1, 2, 3} {
		if id, _, ok := values.Expire(1); id != want || !ok {
			t.Errorf("Expire(1) = %d, %v, want %d: values must not matter to the order", id, ok, want)
		}
	}

	n := 4
	pointers := New[*int]()
	pointers.Start(0, 1, &n)
	if _, v, _ := pointers.Expire(1); v != &n {
		t.Errorf("Expire(1) does not return the stored pointer")
	}
}

// The section "Examples" of the chapter.

func TestExample(t *testing.T) {
	x := New[string]()
	if id, ok := x.Start(0, 10, "a"); id != 1 || !ok {
		t.Errorf("Start(0, 10, a) = %d, %v, want 1, true", id, ok)
	}
	if id, ok := x.Start(1, 20, "b"); id != 2 || !ok {
		t.Errorf("Start(1, 20, b) = %d, %v, want 2, true", id, ok)
	}
	if due, ok := x.Deadline(2); due != 10 || !ok {
		t.Errorf("Deadline(2) = %d, %v, want 10, true", due, ok)
	}
	if id, v, ok := x.Expire(10); id != 1 || v != "a" || !ok {
		t.Errorf("Expire(10) = %d, %q, %v, want 1, \"a\", true", id, v, ok)
	}
	if n := x.Len(); n != 0 {
		t.Errorf("Len() = %d, want 0", n)
	}
}
