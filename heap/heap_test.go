package heap

import (
	"math"
	"slices"
	"sort"
	"strconv"
	"testing"

	"ginnel/api"
)

// model is the heap of the document without an arrangement: a plain list that is searched from end to end.
type model struct {
	list []item
	last int
}

type item struct {
	id    int
	due   uint64
	value string
}

func (m *model) push(due uint64, x string) int {
	m.last++
	m.list = append(m.list, item{m.last, due, x})
	return m.last
}

func (m *model) find(id int) int {
	return slices.IndexFunc(m.list, func(e item) bool { return e.id == id })
}

func (m *model) update(id int, due uint64) bool {
	i := m.find(id)
	if i < 0 {
		return false
	}
	m.list[i].due = due
	return true
}

func (m *model) remove(id int) bool {
	i := m.find(id)
	if i < 0 {
		return false
	}
	m.list = slices.Delete(m.list, i, i+1)
	return true
}

// sorted returns the entries in the order of the document's definition of "precedes".
func (m *model) sorted() []item {
	l := slices.Clone(m.list)
	sort.Slice(l, func(i, j int) bool {
		return l[i].due < l[j].due || l[i].due == l[j].due && l[i].id < l[j].id
	})
	return l
}

// pop returns the zero item if the model is empty.
func (m *model) pop() item {
	if len(m.list) == 0 {
		return item{}
	}
	first := m.sorted()[0]
	m.remove(first.id)
	return first
}

// pair is a heap and a model that have seen the same calls.
type pair struct {
	t *testing.T
	h *Heap[string]
	m *model
}

// newPair returns a pair in which entry i has due time dues[i-1].
func newPair(t *testing.T, dues ...uint64) pair {
	p := pair{t, New[string](), &model{}}
	for _, due := range dues {
		p.push(due)
	}
	return p
}

func (p pair) push(due uint64) {
	p.t.Helper()
	x := "value of " + strconv.Itoa(p.m.last+1)
	want := p.m.push(due, x)
	if got := p.h.Push(due, x); got != want {
		p.t.Fatalf("Push(%d) = %d, want %d", due, got, want)
	}
}

func (p pair) update(id int, due uint64) {
	p.t.Helper()
	want := p.m.update(id, due)
	if got := p.h.Update(id, due); got != want {
		p.t.Fatalf("Update(%d, %d) = %v, want %v", id, due, got, want)
	}
}

func (p pair) remove(id int) {
	p.t.Helper()
	want := p.m.remove(id)
	if got := p.h.Remove(id); got != want {
		p.t.Fatalf("Remove(%d) = %v, want %v", id, got, want)
	}
}

func (p pair) pop() {
	p.t.Helper()
	some := len(p.m.list) > 0
	want := p.m.pop()
	id, due, x, ok := p.h.Pop()
	if got := (item{id, due, x}); got != want || ok != some {
		p.t.Fatalf("Pop() = %v, %v, want %v, %v", got, ok, want, some)
	}
}

// check compares everything that the heap tells with the model, and checks the arrangement.
func (p pair) check() {
	p.t.Helper()
	all := p.m.sorted()
	if got := p.h.Len(); got != len(all) {
		p.t.Fatalf("Len() = %d, want %d", got, len(all))
	}
	ids := make([]int, len(all))
	for i, e := range all {
		ids[i] = e.id
	}
	if got := p.h.Handles(); !slices.Equal(got, ids) {
		p.t.Fatalf("Handles() = %v, want %v", got, ids)
	}
	var first item
	if len(all) > 0 {
		first = all[0]
	}
	id, due, x, ok := p.h.Min()
	if got := (item{id, due, x}); got != first || ok != (len(all) > 0) {
		p.t.Fatalf("Min() = %v, %v, want %v, %v", got, ok, first, len(all) > 0)
	}
	p.checkGet()
	checkArrangement(p.t, p.h)
}

// checkGet asks for every handle that was ever assigned and for the numbers around them.
func (p pair) checkGet() {
	p.t.Helper()
	for id := -1; id <= p.m.last+1; id++ {
		var want item
		i := p.m.find(id)
		if i >= 0 {
			want = p.m.list[i]
		}
		due, x, ok := p.h.Get(id)
		if due != want.due || x != want.value || ok != (i >= 0) {
			p.t.Fatalf("Get(%d) = %d, %q, %v, want %d, %q, %v", id, due, x, ok, want.due, want.value, i >= 0)
		}
	}
}

// checkArrangement checks P2.2 through the exported calls.
func checkArrangement[T any](t *testing.T, h *Heap[T]) {
	t.Helper()
	seen := map[int]bool{}
	for i := range h.Len() {
		id, ok := h.At(i)
		due, _, known := h.Get(id)
		if !ok || !known || seen[id] {
			t.Fatalf("At(%d) = %d, %v: known %v, seen before %v", i, id, ok, known, seen[id])
		}
		seen[id] = true
		up, _ := h.At((i - 1) / 2)
		above, _, _ := h.Get(up)
		if i > 0 && (due < above || due == above && id < up) {
			t.Fatalf("the entry at index %d (handle %d, due %d) precedes the one above it (handle %d, due %d)", i, id, due, up, above)
		}
	}
	for _, i := range []int{math.MinInt, -2, -1, h.Len(), h.Len() + 1, math.MaxInt} {
		if id, ok := h.At(i); id != 0 || ok {
			t.Fatalf("At(%d) = %d, %v of %d entries, want 0, false", i, id, ok, h.Len())
		}
	}
}

// P2.1

func TestEmptyHeap(t *testing.T) {
	p := newPair(t)
	p.check()
	p.pop()
	for _, id := range []int{math.MinInt, -1, 0, 1, math.MaxInt} {
		p.update(id, 5)
		p.remove(id)
	}
	p.check()
	p.push(9)
	p.check()
	p.pop()
	p.check()
	p.pop()
	p.check()
}

func TestPushArrangesAnyOrder(t *testing.T) {
	for _, dues := range [][]uint64{
		{4},
		{1, 2, 3, 4, 5, 6, 7, 8},
		{8, 7, 6, 5, 4, 3, 2, 1},
		{5, 5, 5, 5, 5, 5, 5},
		{5, 1, 5, 1, 5, 1},
		{api.MaxTick, 0, api.MaxTick - 1, 1 << 63, 1<<63 - 1, 1, api.MaxTick, 0},
	} {
		p := newPair(t)
		for _, due := range dues {
			p.push(due)
			p.check()
		}
	}
}

func TestMinLeavesTheEntry(t *testing.T) {
	p := newPair(t, 3, 1, 2)
	for range 3 {
		id, due, x, ok := p.h.Min()
		if id != 2 || due != 1 || x != "value of 2" || !ok {
			t.Fatalf("Min() = %d, %d, %q, %v", id, due, x, ok)
		}
		p.check()
	}
}

func TestPopTakesEqualDueTimesByHandle(t *testing.T) {
	p := newPair(t, 5, 5, 5, 5, 5, 5, 5)
	for want := 1; want <= 7; want++ {
		if id, _, _, ok := p.h.Pop(); id != want || !ok {
			t.Fatalf("Pop() = %d, %v, want %d", id, ok, want)
		}
	}
}

func TestUpdateEveryEntryToEveryDueTime(t *testing.T) {
	dues := []uint64{40, 20, 60, 20, 80, 10, 60, 30, 20, 70}
	for id := 1; id <= len(dues); id++ {
		for due := uint64(0); due <= 90; due += 5 {
			p := newPair(t, dues...)
			p.update(id, due)
			p.check()
			p.update(id, dues[id-1])
			p.check()
		}
		p := newPair(t, dues...)
		p.update(id, api.MaxTick)
		p.check()
	}
}

func TestUpdateKeepsTheHandleAsTieBreak(t *testing.T) {
	p := newPair(t, 5, 5, 5)
	p.update(1, 9)
	p.update(1, 5)
	p.check()
	if got := p.h.Handles(); !slices.Equal(got, []int{1, 2, 3}) {
		t.Errorf("Handles() = %v, want [1 2 3]", got)
	}
}

func TestRemoveAtEveryIndex(t *testing.T) {
	dues := []uint64{40, 20, 60, 20, 80, 10, 60, 30, 20, 70, 15, 5}
	for n := 1; n <= len(dues); n++ {
		for i := range n {
			p := newPair(t, dues[:n]...)
			id, ok := p.h.At(i)
			if !ok {
				t.Fatalf("At(%d) of %d entries is missing", i, n)
			}
			p.remove(id)
			p.check()
			p.remove(id)
			p.check()
		}
	}
}

// In the order of the calls, these entries are a heap already. If the last one, due at 4, takes the place of entry 4, it precedes the entry above it.
func TestRemoveMayMoveAnEntryUp(t *testing.T) {
	dues := []uint64{1, 10, 2, 11, 12, 3, 4}
	for id := 1; id <= len(dues); id++ {
		p := newPair(t, dues...)
		p.remove(id)
		p.check()
	}
}

func TestUnknownHandlesChangeNothing(t *testing.T) {
	p := newPair(t, 7, 5, 5, 9)
	p.pop()
	p.remove(4)
	for _, id := range []int{math.MinInt, -1, 0, 2, 4, 5, 6, math.MaxInt} {
		p.update(id, 1)
		p.remove(id)
		if due, x, ok := p.h.Get(id); due != 0 || x != "" || ok {
			t.Errorf("Get(%d) = %d, %q, %v, want 0, \"\", false", id, due, x, ok)
		}
		p.check()
	}
}

func TestHandlesAreNeverReused(t *testing.T) {
	p := newPair(t, 3, 1, 2)
	p.remove(3)
	p.push(8) // handle 4, although 3 is free
	p.check()
	for range 3 {
		p.pop()
	}
	p.push(8) // handle 5, although the heap was empty
	p.check()
	if id, _ := p.h.At(0); id != 5 {
		t.Errorf("the handle after four others is %d, want 5", id)
	}
}

// A fixed recurrence stands in for chance: every run makes the same calls.
func TestManyCalls(t *testing.T) {
	state := uint64(1)
	draw := func(n int) int {
		state = state*6364136223846793005 + 1442695040888963407
		return int((state >> 33) % uint64(n))
	}
	for _, spread := range []int{1, 4, 1000} {
		p := newPair(t)
		for range 1500 {
			switch draw(8) {
			case 0, 1, 2:
				p.push(uint64(draw(spread)))
			case 3, 4, 5:
				p.update(draw(p.m.last+2), uint64(draw(spread)))
			case 6:
				p.remove(draw(p.m.last + 2))
			default:
				p.pop()
			}
			p.check()
		}
	}
}

// P2.2

func TestAtCoversEveryIndex(t *testing.T) {
	p := newPair(t, 9, 8, 7, 6, 5, 4, 3, 2, 1)
	for p.h.Len() > 0 {
		checkArrangement(t, p.h)
		first, ok := p.h.At(0)
		if id, _, _, _ := p.h.Min(); first != id || !ok {
			t.Errorf("At(0) = %d, %v, but Min returns handle %d", first, ok, id)
		}
		p.pop()
	}
	checkArrangement(t, p.h)
}

// The section "Consequences" of the chapter.

func TestPopReturnsTheOrderOfHandles(t *testing.T) {
	h := New[int]()
	for i := range 100 {
		h.Push(uint64(i*37%23), i)
	}
	for i := 1; i <= 100; i += 3 {
		h.Update(i, uint64(i*53%31))
	}
	for i := 2; i <= 100; i += 5 {
		h.Remove(i)
	}
	for n, want := range h.Handles() {
		if id, _, x, ok := h.Pop(); id != want || x != want-1 || !ok {
			t.Fatalf("call %d of Pop returns %d, value %d, %v, want %d", n, id, x, ok, want)
		}
	}
	if h.Len() != 0 {
		t.Errorf("Len() = %d after the last entry, want 0", h.Len())
	}
}

// R2: heaps do not share their entries or their handles.

func TestHeapsAreIndependent(t *testing.T) {
	a, b := newPair(t, 3, 1), newPair(t)
	b.push(2)
	a.push(0)
	a.check()
	b.check()
}

// R3: the list that Handles returns is the caller's.

func TestHandlesReturnsFreshMemory(t *testing.T) {
	p := newPair(t, 3, 1, 2)
	first, second := p.h.Handles(), p.h.Handles()
	clear(first)
	if !slices.Equal(second, []int{2, 3, 1}) {
		t.Errorf("a second list became %v", second)
	}
	_ = append(second[:0], 8, 8, 8)
	p.check()
}

// R10: values of any type, also of types that cannot be compared.

func TestAnyElementType(t *testing.T) {
	type record struct {
		names []string
		call  func() int
	}
	h := New[record]()
	h.Push(2, record{[]string{"late"}, func() int { return 20 }})
	h.Push(1, record{[]string{"early"}, func() int { return 10 }})
	if _, x, ok := h.Get(1); !ok || x.names[0] != "late" || x.call() != 20 {
		t.Errorf("Get(1) does not return the value of entry 1")
	}
	if _, _, x, ok := h.Pop(); !ok || x.names[0] != "early" || x.call() != 10 {
		t.Errorf("Pop() does not return the value of entry 2")
	}
	if _, x, ok := h.Get(2); ok || x.names != nil || x.call != nil {
		t.Errorf("Get(2) returns a value although entry 2 is gone")
	}

	values := New[any]()
	values.Push(1, nil)
	values.Push(1, math.NaN())
	values.Push(1, []int{1})
	for _, i := range []int{1, 2, 3} {
		if id, _, _, ok := values.Pop(); id != i || !ok {
			t.Errorf("Pop() = %d, %v, want %d: values must not matter to the order", id, ok, i)
		}
	}

	pointers := New[*int]()
	n := 4
	pointers.Push(1, &n)
	if _, x, _ := pointers.Get(1); x != &n {
		t.Errorf("Get(1) does not return the stored pointer")
	}
}

// The section "Examples" of the chapter.

func TestExample(t *testing.T) {
	h := New[string]()
	for i, e := range []item{{1, 7, "a"}, {2, 5, "b"}, {3, 5, "c"}} {
		if id := h.Push(e.due, e.value); id != e.id {
			t.Errorf("call %d of Push returns %d, want %d", i, id, e.id)
		}
	}
	if got := h.Handles(); !slices.Equal(got, []int{2, 3, 1}) {
		t.Errorf("Handles() = %v, want [2 3 1]", got)
	}
	if !h.Update(1, 4) {
		t.Errorf("Update(1, 4) = false")
	}
	if id, due, x, ok := h.Min(); id != 1 || due != 4 || x != "a" || !ok {
		t.Errorf("Min() = %d, %d, %q, %v, want 1, 4, \"a\", true", id, due, x, ok)
	}
}
