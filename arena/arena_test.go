package arena

import (
	"math"
	"slices"
	"strconv"
	"testing"

	"ginnel/api"
)

// model is the arena of the document without slots: a list of all allocations so far, which is searched from end to end.
type model struct {
	n    int
	list []allocation
}

type allocation struct {
	handle api.Handle
	value  string
	freed  bool
}

func (m *model) times(index int) int {
	times := 0
	for _, e := range m.list {
		if e.handle.Index == index {
			times++
		}
	}
	return times
}

func (m *model) isFree(index int) bool {
	return !slices.ContainsFunc(m.list, func(e allocation) bool { return e.handle.Index == index && !e.freed })
}

func (m *model) alloc(x string) (api.Handle, bool) {
	for i := range m.n {
		if m.isFree(i) {
			h := api.Handle{Index: i, Generation: m.times(i) + 1}
			m.list = append(m.list, allocation{h, x, false})
			return h, true
		}
	}
	return api.Handle{}, false
}

// find returns nil unless h is the handle of an allocation that was not freed.
func (m *model) find(h api.Handle) *allocation {
	for i := range m.list {
		if e := &m.list[i]; e.handle == h && !e.freed {
			return e
		}
	}
	return nil
}

func (m *model) get(h api.Handle) (string, bool) {
	if e := m.find(h); e != nil {
		return e.value, true
	}
	return "", false
}

func (m *model) set(h api.Handle, x string) bool {
	e := m.find(h)
	if e != nil {
		e.value = x
	}
	return e != nil
}

func (m *model) free(h api.Handle) bool {
	e := m.find(h)
	if e != nil {
		e.freed = true
	}
	return e != nil
}

func (m *model) handles() []api.Handle {
	var handles []api.Handle
	for i := range m.n {
		for _, e := range m.list {
			if e.handle.Index == i && !e.freed {
				handles = append(handles, e.handle)
			}
		}
	}
	return handles
}

// pair is an arena and a model that have seen the same calls.
type pair struct {
	t *testing.T
	a *Arena[string]
	m *model
}

func newArena[T any](t *testing.T, n int) *Arena[T] {
	t.Helper()
	a, err := New[T](n)
	if a == nil || err != api.OK {
		t.Fatalf("New(%d) = %v, %d, want an arena", n, a, err)
	}
	return a
}

// newPair returns a pair of n slots, of which the first ones are allocated.
func newPair(t *testing.T, n, allocated int) pair {
	t.Helper()
	p := pair{t, newArena[string](t, n), &model{n: n}}
	for range allocated {
		p.alloc()
	}
	return p
}

func (p pair) alloc() {
	p.t.Helper()
	x := "allocation " + strconv.Itoa(len(p.m.list))
	want, wantOK := p.m.alloc(x)
	if got, ok := p.a.Alloc(x); got != want || ok != wantOK {
		p.t.Fatalf("Alloc(%q) = %v, %v, want %v, %v", x, got, ok, want, wantOK)
	}
}

func (p pair) set(h api.Handle, x string) {
	p.t.Helper()
	want := p.m.set(h, x)
	if got := p.a.Set(h, x); got != want {
		p.t.Fatalf("Set(%v, %q) = %v, want %v", h, x, got, want)
	}
}

func (p pair) free(h api.Handle) {
	p.t.Helper()
	want := p.m.free(h)
	if got := p.a.Free(h); got != want {
		p.t.Fatalf("Free(%v) = %v, want %v", h, got, want)
	}
}

// freeSlot frees the slot at index i, which is allocated.
func (p pair) freeSlot(i int) {
	p.t.Helper()
	p.free(api.Handle{Index: i, Generation: p.m.times(i)})
}

// around returns handles of every slot and of the indices outside, with every generation so far and those around them.
func (p pair) around() []api.Handle {
	var handles []api.Handle
	for _, i := range []int{math.MinInt, -p.m.n, -1, p.m.n, p.m.n + 1, api.MaxSlots, math.MaxInt} {
		for g := -1; g <= 2; g++ {
			handles = append(handles, api.Handle{Index: i, Generation: g})
		}
	}
	for i := range p.m.n {
		times := p.m.times(i)
		for g := -1; g <= times+1; g++ {
			handles = append(handles, api.Handle{Index: i, Generation: g})
		}
		for _, g := range []int{math.MinInt, -times, times + 1<<32, math.MaxInt} {
			handles = append(handles, api.Handle{Index: i, Generation: g})
		}
	}
	return handles
}

// check compares everything that the arena tells with the model.
func (p pair) check() {
	p.t.Helper()
	want := p.m.handles()
	if got := p.a.Handles(); !slices.Equal(got, want) {
		p.t.Fatalf("Handles() = %v, want %v", got, want)
	}
	if got := p.a.Len(); got != len(want) {
		p.t.Fatalf("Len() = %d, want %d", got, len(want))
	}
	if got := p.a.Cap(); got != p.m.n {
		p.t.Fatalf("Cap() = %d, want %d", got, p.m.n)
	}
	for _, h := range p.around() {
		x, ok := p.m.get(h)
		if got, gotOK := p.a.Get(h); got != x || gotOK != ok {
			p.t.Fatalf("Get(%v) = %q, %v, want %q, %v", h, got, gotOK, x, ok)
		}
	}
}

// refuse checks that every handle that is not valid is refused by Set and Free and changes nothing.
func (p pair) refuse() {
	p.t.Helper()
	for _, h := range p.around() {
		if p.m.find(h) == nil {
			p.set(h, "intruder")
			p.free(h)
		}
	}
	p.check()
}

// P4.1

func TestNewChecksTheNumberOfSlots(t *testing.T) {
	for _, n := range []int{math.MinInt, -api.MaxSlots, -1, 0, api.MaxSlots + 1, 1 << 32, 1<<32 + 1, math.MaxInt} {
		if a, err := New[string](n); a != nil || err != api.ErrInvalid {
			t.Errorf("New(%d) = %v, %d, want nil, %d", n, a, err, api.ErrInvalid)
		}
	}
	for _, n := range []int{1, 2, 63, 64, 65, api.MaxSlots - 1, api.MaxSlots} {
		newPair(t, n, 0).check()
	}
}

func TestEmptyArena(t *testing.T) {
	p := newPair(t, 3, 0)
	p.check()
	p.refuse()
	p.alloc()
	p.check()
}

func TestOneSlot(t *testing.T) {
	p := newPair(t, 1, 0)
	for range 4 {
		p.alloc()
		p.check()
		p.alloc() // the only slot is taken
		p.check()
		p.refuse()
		p.freeSlot(0)
		p.check()
		p.refuse()
	}
}

// The arena is also filled after slots in the middle and at both ends were freed.
func TestLargestArena(t *testing.T) {
	a := newArena[int](t, api.MaxSlots)
	fill := func(generation int, slots ...int) {
		t.Helper()
		for _, i := range slots {
			want := api.Handle{Index: i, Generation: generation}
			if h, ok := a.Alloc(i * generation); h != want || !ok {
				t.Fatalf("Alloc(%d) = %v, %v, want %v, true", i*generation, h, ok, want)
			}
			if x, ok := a.Get(want); x != i*generation || !ok {
				t.Fatalf("Get(%v) = %d, %v, want %d, true", want, x, ok, i*generation)
			}
		}
		if h, ok := a.Alloc(-1); h != (api.Handle{}) || ok || a.Len() != api.MaxSlots || a.Cap() != api.MaxSlots {
			t.Fatalf("Alloc in a full arena = %v, %v with Len %d and Cap %d", h, ok, a.Len(), a.Cap())
		}
	}
	all := make([]int, api.MaxSlots)
	for i := range all {
		all[i] = i
	}
	fill(1, all...)
	for _, i := range []int{api.MaxSlots - 1, 64, 0, 2048, 63, 1} {
		if !a.Free(api.Handle{Index: i, Generation: 1}) {
			t.Fatalf("Free of slot %d is refused", i)
		}
	}
	fill(2, 0, 1, 63, 64, 2048, api.MaxSlots-1)
	for i, h := range a.Handles() {
		if h.Index != i {
			t.Fatalf("handle %d is %v", i, h)
		}
	}
}

func TestFullArena(t *testing.T) {
	p := newPair(t, 4, 4)
	p.check()
	for range 3 {
		p.alloc()
		p.check()
	}
	p.refuse()
	p.freeSlot(2) // a refused Alloc must not have counted as an allocation
	p.alloc()
	p.check()
}

func TestSetReplacesOneValue(t *testing.T) {
	p := newPair(t, 4, 3)
	for i := range 3 {
		p.set(api.Handle{Index: i, Generation: 1}, "first value of "+strconv.Itoa(i))
		p.check()
		p.set(api.Handle{Index: i, Generation: 1}, "second value of "+strconv.Itoa(i))
		p.check()
	}
	p.set(api.Handle{Index: 1, Generation: 1}, "")
	p.check()
	p.refuse()
}

func TestGetLeavesTheValue(t *testing.T) {
	p := newPair(t, 2, 2)
	h := api.Handle{Index: 1, Generation: 1}
	for range 3 {
		if x, ok := p.a.Get(h); x != "allocation 1" || !ok {
			t.Fatalf("Get(%v) = %q, %v", h, x, ok)
		}
	}
	p.check()
}

func TestFreeASlotOnce(t *testing.T) {
	p := newPair(t, 3, 3)
	h := api.Handle{Index: 1, Generation: 1}
	for range 3 {
		p.free(h)
		p.check()
	}
	p.refuse()
}

func TestGenerationCountsTheAllocationsOfEachSlot(t *testing.T) {
	p := newPair(t, 3, 3)
	for range 5 {
		p.freeSlot(1)
		p.refuse()
		p.alloc()
		p.refuse()
	}
	p.freeSlot(2)
	p.alloc()
	want := []api.Handle{{Index: 0, Generation: 1}, {Index: 1, Generation: 6}, {Index: 2, Generation: 2}}
	if got := p.a.Handles(); !slices.Equal(got, want) {
		t.Errorf("Handles() = %v, want %v", got, want)
	}
	p.check()
}

// Some slots have never been allocated when others are free again.
func TestAllocPrefersTheSmallestIndexToAnUnusedSlot(t *testing.T) {
	p := newPair(t, 8, 4)
	p.freeSlot(3)
	p.freeSlot(1)
	for range 8 {
		p.alloc()
		p.check()
	}
}

// Every set of slots is freed, in ascending, descending and mixed order.
func TestAllocTakesTheSmallestFreeIndex(t *testing.T) {
	const n = 5
	for _, order := range [][]int{{0, 1, 2, 3, 4}, {4, 3, 2, 1, 0}, {2, 4, 0, 3, 1}, {3, 0, 4, 1, 2}} {
		for set := range 1 << n {
			p := newPair(t, n, n)
			for _, i := range order {
				if set>>i&1 == 1 {
					p.freeSlot(i)
					p.check()
				}
			}
			for range n {
				p.alloc()
				p.check()
			}
		}
	}
}

func TestHandlesSkipsGaps(t *testing.T) {
	p := newPair(t, 8, 7)
	for _, i := range []int{6, 0, 3, 4} {
		p.freeSlot(i)
	}
	want := []api.Handle{{Index: 1, Generation: 1}, {Index: 2, Generation: 1}, {Index: 5, Generation: 1}}
	if got := p.a.Handles(); !slices.Equal(got, want) {
		t.Errorf("Handles() = %v, want %v", got, want)
	}
	for _, i := range []int{5, 1, 2} {
		p.freeSlot(i)
	}
	if got := p.a.Handles(); len(got) != 0 {
		t.Errorf("Handles() = %v, want none", got)
	}
	p.check()
}

// A fixed recurrence stands in for chance: every run makes the same calls.
func TestManyCalls(t *testing.T) {
	state := uint64(1)
	draw := func(n int) int {
		state = state*6364136223846793005 + 1442695040888963407
		return int((state >> 33) % uint64(n))
	}
	for _, n := range []int{1, 2, 7, 20} {
		p := newPair(t, n, 0)
		for step := range 400 {
			i := draw(n+2) - 1
			h := api.Handle{Index: i, Generation: p.m.times(i) - draw(4)/3}
			switch draw(8) {
			case 0, 1, 2, 3:
				p.alloc()
			case 4:
				p.set(h, "value of step "+strconv.Itoa(step))
			default:
				p.free(h)
			}
			p.check()
		}
	}
}

// The section "Consequences" of the chapter.

func TestFreedHandlesStayInvalid(t *testing.T) {
	p := newPair(t, 2, 2)
	var freed []api.Handle
	for range 20 {
		h := p.a.Handles()[0]
		p.free(h)
		freed = append(freed, h)
		p.alloc()
		for _, old := range freed {
			if x, ok := p.a.Get(old); x != "" || ok || p.a.Set(old, "intruder") || p.a.Free(old) {
				t.Fatalf("the freed handle %v is valid again", old)
			}
		}
		p.check()
	}
}

// R2: arenas do not share their slots or their generations.

func TestArenasAreIndependent(t *testing.T) {
	a, b := newPair(t, 3, 2), newPair(t, 3, 0)
	b.alloc()
	a.freeSlot(0)
	a.alloc()
	b.alloc()
	a.check()
	b.check()
}

// R3: the list that Handles returns is the caller's.

func TestHandlesReturnsFreshMemory(t *testing.T) {
	p := newPair(t, 4, 3)
	first, second := p.a.Handles(), p.a.Handles()
	want := slices.Clone(second)
	clear(first[:cap(first)])
	if !slices.Equal(second, want) {
		t.Errorf("a second list became %v, want %v", second, want)
	}
	p.check()
	p.freeSlot(1)
	if !slices.Equal(second, want) {
		t.Errorf("after Free, an earlier list became %v, want %v", second, want)
	}
}

// R10: values of any type, also of types that cannot be compared.

func TestAnyElementType(t *testing.T) {
	type record struct {
		names []string
		call  func() int
	}
	a := newArena[record](t, 2)
	h, _ := a.Alloc(record{[]string{"old"}, func() int { return 10 }})
	if x, ok := a.Get(h); !ok || x.names[0] != "old" || x.call() != 10 {
		t.Errorf("Get(%v) does not return the allocated value", h)
	}
	a.Set(h, record{[]string{"new"}, func() int { return 20 }})
	if x, ok := a.Get(h); !ok || x.names[0] != "new" || x.call() != 20 {
		t.Errorf("Get(%v) does not return the value of Set", h)
	}
	a.Free(h)
	if x, ok := a.Get(h); ok || x.names != nil || x.call != nil {
		t.Errorf("Get(%v) returns a value although the slot is free", h)
	}

	empty := newArena[struct{}](t, 2)
	empty.Alloc(struct{}{})
	if h, ok := empty.Alloc(struct{}{}); h != (api.Handle{Index: 1, Generation: 1}) || !ok {
		t.Errorf("the second Alloc of an empty struct = %v, %v", h, ok)
	}

	n := 4
	pointers := newArena[*int](t, 1)
	h, _ = pointers.Alloc(&n)
	if x, ok := pointers.Get(h); x != &n || !ok {
		t.Errorf("Get(%v) does not return the stored pointer", h)
	}
}

// R10: zero values and values that differ from themselves take a slot like any other.
func TestValuesAreNotInspected(t *testing.T) {
	a := newArena[any](t, 4)
	for i, x := range []any{nil, math.NaN(), []int{1}, 0} {
		if h, ok := a.Alloc(x); h != (api.Handle{Index: i, Generation: 1}) || !ok {
			t.Errorf("Alloc(%v) = %v, %v, want slot %d", x, h, ok, i)
		}
	}
	if h, ok := a.Alloc(nil); ok {
		t.Errorf("Alloc(nil) in a full arena = %v", h)
	}
	if x, ok := a.Get(api.Handle{Index: 0, Generation: 1}); x != nil || !ok {
		t.Errorf("Get returns %v, %v, want the stored nil", x, ok)
	}
}

// R3 speaks of slices that are arguments of the document's functions; a slice that is a value of the type parameter is stored as it is (R10).
func TestSlicesAreStoredAsTheyAre(t *testing.T) {
	a := newArena[[]int](t, 1)
	h, _ := a.Alloc([]int{1, 2})
	x, _ := a.Get(h)
	y, _ := a.Get(h)
	if x[0] = 7; y[0] != 7 || len(y) != 2 {
		t.Errorf("Get returns a copy of the stored slice")
	}
}

// The section "Examples" of the chapter.

func TestExample(t *testing.T) {
	a := newArena[string](t, 2)
	first, second := api.Handle{Index: 0, Generation: 1}, api.Handle{Index: 0, Generation: 2}
	if h, ok := a.Alloc("a"); h != first || !ok {
		t.Errorf("Alloc(a) = %v, %v, want %v, true", h, ok, first)
	}
	if !a.Free(first) {
		t.Errorf("Free(%v) = false, want true", first)
	}
	if h, ok := a.Alloc("b"); h != second || !ok {
		t.Errorf("Alloc(b) = %v, %v, want %v, true", h, ok, second)
	}
	if x, ok := a.Get(first); x != "" || ok {
		t.Errorf("Get(%v) = %q, %v, want \"\", false", first, x, ok)
	}
	if x, ok := a.Get(second); x != "b" || !ok {
		t.Errorf("Get(%v) = %q, %v, want \"b\", true", second, x, ok)
	}
}
