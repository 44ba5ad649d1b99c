package tick

import (
	"slices"
	"testing"

	"ginnel/api"
)

const (
	last = api.MaxTick
	half = uint64(1) << 63 // the first tick that a signed number cannot hold
)

// samples holds the ticks at which the arithmetic changes its behavior, and their neighbors.
var samples = []uint64{0, 1, 2, 9, 10, 1 << 32, half - 1, half, half + 1, last - 2, last - 1, last}

func expect(t *testing.T, what string, got, want uint64) {
	t.Helper()
	if got != want {
		t.Errorf("%s = %d, want %d", what, got, want)
	}
}

// P1.1

func TestAdd(t *testing.T) {
	for _, c := range []struct{ a, b, want uint64 }{
		{0, 0, 0},
		{3, 4, 7},
		{0, last, last},
		{1, last - 2, last - 1},
		{1, last - 1, last},
		{half - 1, 1, half},
		{half - 1, half, last},
		{half, half, last},
		{1, last, last},
		{2, last - 1, last},
		{last, last, last},
	} {
		expect(t, "Add", Add(c.a, c.b), c.want)
		expect(t, "Add with its arguments exchanged", Add(c.b, c.a), c.want)
	}
}

func TestSub(t *testing.T) {
	for _, c := range []struct{ a, b, want uint64 }{
		{0, 0, 0},
		{7, 3, 4},
		{5, 5, 0},
		{5, 4, 1},
		{4, 5, 0},
		{3, 7, 0},
		{0, 1, 0},
		{0, last, 0},
		{1, half, 0},
		{half, 1, half - 1},
		{last, 0, last},
		{last, 1, last - 1},
		{last, last, 0},
		{last - 1, last, 0},
	} {
		expect(t, "Sub", Sub(c.a, c.b), c.want)
	}
}

func TestSubUndoesAddBelowMaxTick(t *testing.T) {
	for _, a := range samples {
		for _, b := range samples {
			if sum := Add(a, b); sum < last {
				expect(t, "Sub(Add(a, b), b)", Sub(sum, b), a)
			}
			if a >= b {
				expect(t, "Add(Sub(a, b), b)", Add(Sub(a, b), b), a)
			}
		}
	}
}

func TestMin(t *testing.T) {
	for _, c := range []struct {
		l    []uint64
		want uint64
	}{
		{nil, last},
		{[]uint64{}, last},
		{[]uint64{4}, 4},
		{[]uint64{0}, 0},
		{[]uint64{last}, last},
		{[]uint64{2, 5, 9}, 2},
		{[]uint64{5, 2, 9}, 2},
		{[]uint64{9, 5, 2}, 2},
		{[]uint64{3, 3, 3}, 3},
		{[]uint64{last, 0}, 0},
		{[]uint64{half, 1}, 1},
		{[]uint64{last, last - 1, last}, last - 1},
	} {
		expect(t, "Min", Min(c.l...), c.want)
	}
	expect(t, "Min()", Min(), last)
}

// P1.2

func TestDeadline(t *testing.T) {
	for _, c := range []struct {
		now, span uint64
		limits    []uint64
		want      uint64
	}{
		{5, 10, nil, 15},
		{5, 10, []uint64{}, 15},
		{5, 0, nil, 5},
		{5, 10, []uint64{12, 20}, 12},
		{5, 10, []uint64{20, 12}, 12},
		{5, 10, []uint64{20, 30}, 15},
		{5, 10, []uint64{15}, 15},
		{5, 10, []uint64{14}, 14},
		{5, 10, []uint64{16}, 15},
		{5, 10, []uint64{3}, 3}, // a limit may already have passed
		{5, 10, []uint64{0}, 0},
		{5, 10, []uint64{20, last, 11, 13}, 11},
		{last - 1, 1, nil, last},
		{last, 9, nil, last},
		{last, last, nil, last},
		{last, 9, []uint64{7}, 7},
		{9, last, []uint64{last - 1}, last - 1},
		{half, half, []uint64{last}, last},
	} {
		expect(t, "Deadline", Deadline(c.now, c.span, c.limits...), c.want)
	}
}

func TestWindow(t *testing.T) {
	for _, c := range []struct{ now, width, want uint64 }{
		{0, 10, 0},
		{9, 10, 0},
		{10, 10, 1},
		{19, 10, 1},
		{25, 10, 2},
		{7, 1, 7},
		{7, last, 0},
		{half, 2, 1 << 62},
		{last, half, 1},
		{last, 1, last},
		{last, 2, half - 1},
		{last - 1, last, 0},
		{last, last, 1},
		{0, 0, 0},
		{7, 0, 0},
		{last, 0, 0},
	} {
		expect(t, "Window", Window(c.now, c.width), c.want)
	}
}

// The section "Consequences" of the chapter.

func TestDeadlineIsNeverLaterThanALimit(t *testing.T) {
	for _, now := range samples {
		for _, span := range samples {
			for _, a := range samples {
				for _, b := range samples {
					d := Deadline(now, span, a, b)
					if d > a || d > b {
						t.Fatalf("Deadline(%d, %d, %d, %d) = %d is later than a limit", now, span, a, b, d)
					}
				}
			}
		}
	}
}

// R3: neither the list nor the memory behind it changes.

func TestListsAreLeftAlone(t *testing.T) {
	memory := []uint64{20, 12, 30, 7, 8}
	before := slices.Clone(memory)
	expect(t, "Min", Min(memory[:3]...), 12)
	expect(t, "Deadline", Deadline(5, 10, memory[:3]...), 12)
	if !slices.Equal(memory, before) {
		t.Errorf("the list became %v, want %v", memory, before)
	}
}

// The section "Examples" of the chapter.

func TestExamples(t *testing.T) {
	expect(t, "Add(MaxTick, 1)", Add(api.MaxTick, 1), api.MaxTick)
	expect(t, "Deadline(5, 10, 12, 20)", Deadline(5, 10, 12, 20), 12)
	expect(t, "Window(25, 10)", Window(25, 10), 2)
}
