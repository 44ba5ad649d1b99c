package ring

import (
	"math"
	"slices"
	"testing"

	"ginnel/api"
)

// model is the ring buffer of the document without a ring: everything that ever entered, and how much of it has left.
type model struct {
	n       int
	entered []int
	left    int
}

func (m *model) elements() []int {
	return m.entered[m.left:]
}

func (m *model) push(l []int) int {
	pushed := 0
	for _, x := range l {
		if len(m.elements()) < m.n {
			m.entered = append(m.entered, x)
			pushed++
		}
	}
	return pushed
}

func (m *model) peek(n int) []int {
	var l []int
	for i, x := range m.elements() {
		if i < n {
			l = append(l, x)
		}
	}
	return l
}

func (m *model) pop(n int) []int {
	l := m.peek(n)
	m.left += len(l)
	return l
}

// pair is a ring buffer and a model that have seen the same calls.
type pair struct {
	t    *testing.T
	r    *Ring[int]
	m    *model
	next int // the number that is pushed next, so that all elements differ
}

func newRing[T any](t *testing.T, n int) *Ring[T] {
	t.Helper()
	r, err := New[T](n)
	if r == nil || err != api.OK {
		t.Fatalf("New(%d) = %v, %d, want a ring buffer", n, r, err)
	}
	return r
}

func newPair(t *testing.T, n int) *pair {
	t.Helper()
	p := &pair{t, newRing[int](t, n), &model{n: n}, 1}
	p.check()
	return p
}

// push offers k elements.
func (p *pair) push(k int) {
	p.t.Helper()
	l := make([]int, k)
	for i := range l {
		l[i] = p.next + i
	}
	got, want := p.r.Push(l...), p.m.push(l)
	if got != want {
		p.t.Fatalf("Push of %d elements to %v of capacity %d = %d, want %d", k, p.m.elements(), p.m.n, got, want)
	}
	p.next += k
	p.check()
}

func (p *pair) peek(n int) {
	p.t.Helper()
	if got, want := p.r.Peek(n), p.m.peek(n); !slices.Equal(got, want) {
		p.t.Fatalf("Peek(%d) of %v = %v, want %v", n, p.m.elements(), got, want)
	}
}

func (p *pair) pop(n int) {
	p.t.Helper()
	before := slices.Clone(p.m.elements())
	if got, want := p.r.Pop(n), p.m.pop(n); !slices.Equal(got, want) {
		p.t.Fatalf("Pop(%d) of %v = %v, want %v", n, before, got, want)
	}
	p.check()
}

// check compares everything that can be seen without removing an element.
func (p *pair) check() {
	p.t.Helper()
	length := len(p.m.elements())
	if p.r.Len() != length || p.r.Free() != p.m.n-length || p.r.Cap() != p.m.n {
		p.t.Fatalf("Len, Free, Cap = %d, %d, %d, want %d, %d, %d", p.r.Len(), p.r.Free(), p.r.Cap(), length, p.m.n-length, p.m.n)
	}
	for _, n := range counts(length) {
		p.peek(n)
	}
}

// counts returns arguments of Peek and Pop that lie around the edges of a buffer with the given number of elements.
func counts(length int) []int {
	return []int{math.MinInt, -1, 0, 1, length / 2, length - 1, length, length + 1, 2*length + 1, math.MaxInt}
}

// P5.1

func TestNewChecksTheCapacity(t *testing.T) {
	for _, n := range []int{math.MinInt, -4096, -1, 0, api.MaxRing + 1, 2 * api.MaxRing, math.MaxInt} {
		if r, err := New[int](n); r != nil || err != api.ErrInvalid {
			t.Errorf("New(%d) = %v, %d, want nil, %d", n, r, err, api.ErrInvalid)
		}
	}
	for _, n := range []int{1, 2, 3, 520, api.MaxRing - 1, api.MaxRing} {
		newPair(t, n)
	}
}

func TestCapacityOne(t *testing.T) {
	p := newPair(t, 1)
	for range 5 {
		p.pop(1)
		p.push(0)
		p.push(3)
		p.push(1)
		p.push(0)
		p.pop(0)
		p.pop(-1)
		p.pop(2)
	}
}

func TestLargestCapacity(t *testing.T) {
	p := newPair(t, api.MaxRing)
	for _, k := range []int{1, api.MaxRing - 2, 1, 1, 0} {
		p.push(k)
	}
	p.pop(api.MaxRing - 1)
	p.push(2 * api.MaxRing)
	p.pop(1)
	p.push(1)
	p.pop(math.MaxInt)
	p.push(api.MaxRing)
	p.pop(api.MaxRing)
}

// Push of no element, of fewer than fit, of exactly as many as fit and of more, at every fill and at every place where the elements may begin.
func TestPushAsManyAsFit(t *testing.T) {
	const n = 5
	for start := range n {
		for fill := range n + 1 {
			for k := range 2*n + 2 {
				p := filled(t, n, start, fill)
				p.push(k)
				p.push(0)
				p.push(1)
				p.pop(n)
			}
		}
	}
}

// filled returns a buffer through which start elements have passed one by one, and which then holds fill elements.
func filled(t *testing.T, n, start, fill int) *pair {
	t.Helper()
	p := newPair(t, n)
	p.push(n)
	p.pop(n)
	for range start {
		p.push(1)
		p.pop(1)
	}
	p.push(fill)
	return p
}

func TestPushToAFullBuffer(t *testing.T) {
	p := newPair(t, 4)
	p.push(4)
	for _, k := range []int{0, 1, 4, 100} {
		p.push(k)
	}
	p.pop(4) // refused elements must not appear later
	p.push(2)
	p.pop(4)
}

func TestPushWithoutArguments(t *testing.T) {
	r := newRing[string](t, 2)
	if n := r.Push(); n != 0 {
		t.Errorf("Push() = %d, want 0", n)
	}
	if n := r.Push(nil...); n != 0 {
		t.Errorf("Push(nil...) = %d, want 0", n)
	}
	if n := r.Push([]string{}...); n != 0 || r.Len() != 0 || r.Free() != 2 {
		t.Errorf("Push of an empty list = %d with Len %d and Free %d", n, r.Len(), r.Free())
	}
}

func TestPopAtTheEdges(t *testing.T) {
	const n = 5
	for start := range n {
		for fill := range n + 1 {
			for _, k := range counts(fill) {
				p := filled(t, n, start, fill)
				p.pop(k)
				p.push(n) // what was popped must have made room
				p.pop(k)
				p.pop(n)
			}
		}
	}
}

func TestEmptyBuffer(t *testing.T) {
	fresh := newPair(t, 3)
	used := filled(t, 3, 2, 3)
	used.pop(3)
	for _, p := range []*pair{fresh, used} {
		for _, n := range counts(0) {
			p.peek(n)
			p.pop(n)
		}
		p.push(2)
		p.pop(3)
	}
}

func TestPeekRemovesNothing(t *testing.T) {
	p := filled(t, 4, 3, 3)
	for range 3 {
		p.peek(2)
		p.peek(math.MaxInt)
	}
	p.pop(4)
}

// The slots grow in the middle of a run of elements that continues at their start.
func TestGrowingKeepsTheOrder(t *testing.T) {
	for first := range 9 {
		for popped := range first + 1 {
			for second := range 9 {
				p := newPair(t, 32)
				p.push(first)
				p.pop(popped)
				p.push(second)
				p.pop(1)
				p.push(1)
				p.push(16)
				p.pop(3)
				p.push(32)
				p.pop(32)
			}
		}
	}
}

// A fixed recurrence stands in for chance: every run makes the same calls.
func TestManyCalls(t *testing.T) {
	state := uint64(1)
	draw := func(n int) int {
		state = state*6364136223846793005 + 1442695040888963407
		return int((state >> 33) % uint64(n))
	}
	for _, n := range []int{1, 2, 3, 7, 8, 20} {
		p := newPair(t, n)
		for range 600 {
			if draw(2) == 0 {
				p.push(draw(n + 2))
			} else {
				p.pop(draw(n+3) - 1)
			}
		}
		if len(p.m.entered) < 10*n {
			t.Errorf("capacity %d: only %d elements entered", n, len(p.m.entered))
		}
	}
}

// The section "Consequences" of the chapter.

func TestElementsLeaveInOrder(t *testing.T) {
	for _, n := range []int{1, 2, 6, 13} {
		r := newRing[int](t, n)
		in, out := 0, 0
		for step := range 500 {
			for range step % 4 {
				in += r.Push(in, in+1, in+2)
			}
			for _, x := range r.Pop(step % 5) {
				if x != out {
					t.Fatalf("capacity %d: element %d left after %d others", n, x, out)
				}
				out++
			}
		}
		if out <= 20*n || r.Len() != in-out {
			t.Errorf("capacity %d: %d elements entered and %d left, but Len is %d", n, in, out, r.Len())
		}
	}
}

// R2: ring buffers do not share their elements.

func TestRingsAreIndependent(t *testing.T) {
	a, b := newPair(t, 4), newPair(t, 4)
	b.next = 100
	a.push(3)
	b.push(2)
	a.pop(2)
	b.push(2)
	a.push(3)
	b.pop(3)
	a.check()
	b.check()
}

// R3: the slice that is handed to Push is the caller's, also behind its length.

func TestPushNeitherKeepsNorChangesItsArgument(t *testing.T) {
	r := newRing[int](t, 3)
	for range 4 { // also with elements that continue at the start of the slots
		memory := []int{1, 2, 3, 4, 5}
		l := memory[:2]
		r.Push(l...)
		r.Push(9, 9)
		if !slices.Equal(memory, []int{1, 2, 3, 4, 5}) {
			t.Fatalf("Push changed its argument to %v", memory)
		}
		clear(memory)
		if got := r.Peek(3); !slices.Equal(got, []int{1, 2, 9}) {
			t.Fatalf("after the argument of Push was changed, the elements are %v", got)
		}
		r.Pop(2)
		if got := r.Pop(3); !slices.Equal(got, []int{9}) || !slices.Equal(memory, make([]int, 5)) {
			t.Fatalf("Pop = %v, and the argument of Push is %v", got, memory)
		}
	}
}

// R3: the slices that Peek and Pop return are the caller's.

func TestPeekAndPopReturnFreshMemory(t *testing.T) {
	for start := range 4 {
		p := filled(t, 4, start, 4)
		want := slices.Clone(p.m.elements())
		first, second := p.r.Peek(4), p.r.Peek(4)
		wipe(first)
		p.check()
		if !slices.Equal(second, want) {
			t.Errorf("after a list of Peek was changed, another is %v, want %v", second, want)
		}
		part := p.r.Peek(2)
		wipe(part)
		p.check()
		popped := p.r.Pop(2)
		p.m.pop(2)
		p.push(2) // takes the slots of the popped elements
		if !slices.Equal(popped, want[:2]) || !slices.Equal(second, want) {
			t.Errorf("after Push, earlier lists are %v and %v, want %v and %v", popped, second, want[:2], want)
		}
		wipe(popped)
		p.check()
	}
}

// wipe overwrites the list and the memory behind it.
func wipe(l []int) {
	l = l[:cap(l)]
	for i := range l {
		l[i] = -1
	}
}

func TestElementsOfOneBufferPushedToAnother(t *testing.T) {
	a, b := newRing[int](t, 3), newRing[int](t, 2)
	a.Push(1, 2, 3)
	if n := b.Push(a.Peek(3)...); n != 2 {
		t.Errorf("Push = %d, want 2", n)
	}
	a.Pop(1)
	a.Push(4)
	if x, y := a.Peek(3), b.Peek(3); !slices.Equal(x, []int{2, 3, 4}) || !slices.Equal(y, []int{1, 2}) {
		t.Errorf("the buffers hold %v and %v", x, y)
	}
	if n := b.Push(b.Pop(1)...); n != 1 {
		t.Errorf("Push = %d, want 1", n)
	}
	if y := b.Peek(3); !slices.Equal(y, []int{2, 1}) {
		t.Errorf("the second buffer holds %v", y)
	}
}

// R10: elements of any type, also of types that cannot be compared.

func TestAnyElementType(t *testing.T) {
	type record struct {
		names []string
		call  func() int
	}
	r := newRing[record](t, 2)
	r.Push(record{[]string{"a"}, func() int { return 10 }}, record{[]string{"b"}, func() int { return 20 }})
	l := r.Pop(2)
	if len(l) != 2 || l[0].names[0] != "a" || l[0].call() != 10 || l[1].names[0] != "b" || l[1].call() != 20 {
		t.Errorf("Pop does not return the pushed records")
	}

	b := newRing[byte](t, 4)
	b.Push([]byte("hello")...)
	if got := string(b.Pop(9)); got != "hell" {
		t.Errorf("Pop of bytes = %q, want \"hell\"", got)
	}

	empty := newRing[struct{}](t, 2)
	if n := empty.Push(struct{}{}, struct{}{}, struct{}{}); n != 2 || len(empty.Pop(1)) != 1 || empty.Len() != 1 {
		t.Errorf("%d empty structs fit, and %d are left", n, empty.Len())
	}
}

// A large element type must not make an empty buffer large: 2^52 bytes cannot be allocated.
func TestCapacityTakesNoMemory(t *testing.T) {
	r := newRing[[1 << 40]byte](t, api.MaxRing)
	if n := r.Push(); n != 0 || r.Len() != 0 || r.Free() != api.MaxRing || r.Cap() != api.MaxRing {
		t.Errorf("Push() = %d with Len %d, Free %d and Cap %d", n, r.Len(), r.Free(), r.Cap())
	}
}

// A removed element is the caller's alone, so that its memory can be released.
func TestRemovedElementsAreNotKept(t *testing.T) {
	for start := range 4 {
		p := filled(t, 4, start, 4)
		p.pop(3)
		kept := slices.DeleteFunc(slices.Clone(p.r.slots), func(x int) bool { return x == 0 })
		if !slices.Equal(kept, p.m.elements()) {
			t.Errorf("the slots hold %v, want %v", kept, p.m.elements())
		}
	}
}

// R10: zero values and values that differ from themselves are elements like any other.
func TestElementsAreNotInspected(t *testing.T) {
	r := newRing[any](t, 4)
	if n := r.Push(nil, math.NaN(), []int{1}, 0, 5); n != 4 {
		t.Errorf("Push = %d, want 4", n)
	}
	l := r.Pop(4)
	if len(l) != 4 || l[0] != nil || !math.IsNaN(l[1].(float64)) || l[2].([]int)[0] != 1 || l[3] != 0 {
		t.Errorf("Pop = %v", l)
	}
	if n := r.Push(nil, nil); n != 2 || r.Len() != 2 {
		t.Errorf("Push of two nils = %d with Len %d", n, r.Len())
	}
}

// R3 speaks of slices that are arguments of the document's functions; a slice that is an element is stored as it is (R10).
func TestSlicesAreStoredAsTheyAre(t *testing.T) {
	r := newRing[[]int](t, 1)
	x := []int{1, 2}
	r.Push(x)
	x[0] = 7
	if got := r.Peek(1)[0]; got[0] != 7 || len(got) != 2 {
		t.Errorf("Peek returns %v, a copy of the stored slice", got)
	}
}

// The section "Examples" of the chapter.

func TestExample(t *testing.T) {
	r := newRing[int](t, 3)
	if n := r.Push(1, 2); n != 2 {
		t.Errorf("Push(1, 2) = %d, want 2", n)
	}
	if n := r.Push(3, 4); n != 1 {
		t.Errorf("Push(3, 4) = %d, want 1", n)
	}
	if l := r.Pop(2); !slices.Equal(l, []int{1, 2}) {
		t.Errorf("Pop(2) = %v, want [1 2]", l)
	}
	if n := r.Free(); n != 2 {
		t.Errorf("Free() = %d, want 2", n)
	}
}
