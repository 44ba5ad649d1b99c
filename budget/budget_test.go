package budget

import (
	"math"
	"testing"

	"ginnel/api"
)

func build(t *testing.T, n int, width uint64) *Budget {
	t.Helper()
	b, e := New(n, width)
	if b == nil || e != api.OK {
		t.Fatalf("New(%d, %d) = %v, %d, want a budget", n, width, b, e)
	}
	return b
}

func wantCharge(t *testing.T, b *Budget, now uint64, want bool) {
	t.Helper()
	if got := b.Charge(now); got != want {
		t.Errorf("Charge(%d) = %v, want %v", now, got, want)
	}
}

// wantCharges expects times charges at now to succeed, and the one after them to fail.
func wantCharges(t *testing.T, b *Budget, now uint64, times int) {
	t.Helper()
	for i := range times {
		if !b.Charge(now) {
			t.Fatalf("Charge(%d) failed after %d charges, want %d", now, i, times)
		}
	}
	wantCharge(t, b, now, false)
}

func wantRemaining(t *testing.T, b *Budget, now uint64, want int) {
	t.Helper()
	if got := b.Remaining(now); got != want {
		t.Errorf("Remaining(%d) = %d, want %d", now, got, want)
	}
}

func wantState(t *testing.T, b *Budget, used int, window uint64) {
	t.Helper()
	if got := b.Used(); got != used {
		t.Errorf("Used() = %d, want %d", got, used)
	}
	if got := b.Window(); got != window {
		t.Errorf("Window() = %d, want %d", got, window)
	}
}

// P13.1: New

func TestNewOfInvalidArguments(t *testing.T) {
	for _, c := range []struct {
		n     int
		width uint64
	}{
		{-1, 1},
		{-1, 10},
		{-1000, 10},
		{math.MinInt, 10},
		{math.MinInt, 1},
		{api.MaxBudget + 1, 1},
		{api.MaxBudget + 1, 10},
		{api.MaxBudget + 1, api.MaxTimeout},
		{1 << 16, 10},
		{math.MaxInt, 10},
		{1, 0},
		{0, 0},
		{api.MaxBudget, 0},
		{1, api.MaxTimeout + 1},
		{0, api.MaxTimeout + 1},
		{api.MaxBudget, api.MaxTimeout + 1},
		{1, 1 << 63},
		{1, api.MaxTick},
		{-1, 0},
		{api.MaxBudget + 1, api.MaxTick},
	} {
		if b, e := New(c.n, c.width); b != nil || e != api.ErrInvalid {
			t.Errorf("New(%d, %d) = %v, %d, want nil, %d", c.n, c.width, b, e, api.ErrInvalid)
		}
	}
}

func TestNewOfValidArguments(t *testing.T) {
	for _, n := range []int{0, 1, 2, 999, api.MaxBudget} {
		for _, width := range []uint64{1, 2, 10, 1 << 32, api.MaxTimeout - 1, api.MaxTimeout} {
			b := build(t, n, width)
			wantState(t, b, 0, 0)
			wantRemaining(t, b, 0, n)
			wantCharges(t, b, width-1, n)
			wantState(t, b, n, 0)
			wantRemaining(t, b, width-1, 0)
			wantRemaining(t, b, width, n)
		}
	}
}

func TestBudgetsAreSeparate(t *testing.T) {
	one, other := build(t, 1, 10), build(t, 1, 10)
	wantCharges(t, one, 25, 1)
	wantState(t, one, 1, 2)
	wantState(t, other, 0, 0)
	wantCharges(t, other, 5, 1)
	wantState(t, one, 1, 2)
	wantState(t, other, 1, 0)
}

// P13.1: Charge

func TestChargesOfOneWindow(t *testing.T) {
	b := build(t, 3, 10)
	for i, now := range []uint64{0, 4, 9} {
		wantCharge(t, b, now, true)
		wantState(t, b, i+1, 0)
	}
	for _, now := range []uint64{9, 9, 5, 0} {
		wantCharge(t, b, now, false)
		wantState(t, b, 3, 0)
	}
}

func TestChargesAtTheBordersOfWindows(t *testing.T) {
	for _, width := range []uint64{2, 3, 10, 1 << 20, api.MaxTimeout} {
		b := build(t, 1, width)
		for w := range uint64(5) {
			wantCharge(t, b, w*width, true)
			wantState(t, b, 1, w)
			wantCharge(t, b, w*width+width-1, false)
			wantState(t, b, 1, w)
		}
	}
}

func TestWidthOfOneTick(t *testing.T) {
	b := build(t, 1, 1)
	for now := range uint64(5) {
		wantCharge(t, b, now, true)
		wantCharge(t, b, now, false)
		wantState(t, b, 1, now)
	}
}

// What an earlier window did not use is lost.
func TestUnusedChargesAreNotCarriedOver(t *testing.T) {
	b := build(t, 5, 10)
	wantCharge(t, b, 0, true)
	wantCharges(t, b, 10, 5)
	wantCharges(t, b, 40, 5)
	wantState(t, b, 5, 4)
}

func TestWindowsPassedOver(t *testing.T) {
	b := build(t, 2, 10)
	wantCharges(t, b, 9, 2)
	wantCharge(t, b, 95, true)
	wantState(t, b, 1, 9)
	wantCharge(t, b, 1000, true)
	wantState(t, b, 1, 100)
	for _, now := range []uint64{100, 95, 50, 10, 9} { // the windows between stay closed
		wantRemaining(t, b, now, 1)
	}
	wantCharge(t, b, 50, true)
	wantCharge(t, b, 50, false)
	wantState(t, b, 2, 100)
}

// The first charge need not be in window 0.
func TestFirstChargeInALaterWindow(t *testing.T) {
	b := build(t, 2, 10)
	wantCharge(t, b, 37, true)
	wantState(t, b, 1, 3)
	wantCharge(t, b, 0, true)
	wantState(t, b, 2, 3)
	wantCharge(t, b, 0, false)
}

// A charge at an earlier time is a charge of the current window.
func TestChargesAtEarlierTimes(t *testing.T) {
	b := build(t, 3, 10)
	wantCharge(t, b, 20, true)
	wantCharge(t, b, 19, true)
	wantState(t, b, 2, 2)
	wantCharge(t, b, 0, true)
	wantState(t, b, 3, 2)
	for _, now := range []uint64{0, 5, 10, 19, 20, 29} {
		wantCharge(t, b, now, false)
		wantState(t, b, 3, 2)
	}
	wantCharge(t, b, 30, true)
	wantState(t, b, 1, 3)
}

func TestLargestTime(t *testing.T) {
	for _, c := range []struct {
		width, window uint64
		before        uint64 // the last time of the window before
	}{
		{1, api.MaxTick, api.MaxTick - 1},
		{2, 1<<63 - 1, api.MaxTick - 2},
		{10, 1844674407370955161, 18446744073709551609},
		{api.MaxTimeout, 1<<24 - 1, api.MaxTick - api.MaxTimeout},
	} {
		b := build(t, 2, c.width)
		wantCharges(t, b, c.before, 2)
		wantState(t, b, 2, c.window-1)
		wantRemaining(t, b, api.MaxTick, 2)
		wantCharges(t, b, api.MaxTick, 2)
		wantState(t, b, 2, c.window)
		for _, now := range []uint64{0, c.before, api.MaxTick - 1, api.MaxTick} {
			wantRemaining(t, b, now, 0)
		}
		wantState(t, b, 2, c.window)
	}
}

// A charge begins the window of its time even where it then fails.
func TestBudgetOfNoCharges(t *testing.T) {
	b := build(t, 0, 10)
	for _, c := range []struct{ now, window uint64 }{
		{0, 0}, {9, 0}, {10, 1}, {9, 1}, {35, 3}, {0, 3}, {api.MaxTick, 1844674407370955161}, {35, 1844674407370955161},
	} {
		wantRemaining(t, b, c.now, 0)
		wantCharge(t, b, c.now, false)
		wantState(t, b, 0, c.window)
		wantRemaining(t, b, c.now, 0)
	}
}

func TestLargestBudget(t *testing.T) {
	b := build(t, api.MaxBudget, 10)
	for i := range api.MaxBudget {
		wantRemaining(t, b, 15, api.MaxBudget-i)
		wantCharge(t, b, 15, true)
		wantState(t, b, i+1, 1)
	}
	wantCharge(t, b, 15, false)
	wantRemaining(t, b, 15, 0)
	wantCharge(t, b, 20, true)
	wantRemaining(t, b, 20, api.MaxBudget-1)
}

// P13.1: Remaining

func TestRemainingBeforeAnyCharge(t *testing.T) {
	b := build(t, 3, 10)
	for _, now := range []uint64{0, 9, 10, 95, api.MaxTick, 0} {
		wantRemaining(t, b, now, 3)
		wantState(t, b, 0, 0)
	}
}

func TestRemainingOfEachWindow(t *testing.T) {
	b := build(t, 3, 10)
	wantCharge(t, b, 20, true)
	wantCharge(t, b, 20, true)
	for _, c := range []struct {
		now  uint64
		want int
	}{
		{0, 1}, {10, 1}, {19, 1}, // earlier windows
		{20, 1}, {29, 1}, // the current one
		{30, 3}, {39, 3}, {95, 3}, {api.MaxTick, 3}, // later ones
		{29, 1}, {0, 1},
	} {
		wantRemaining(t, b, c.now, c.want)
		wantState(t, b, 2, 2)
	}
}

// Remaining for a later window does not begin that window.
func TestRemainingChangesNothing(t *testing.T) {
	b := build(t, 2, 10)
	wantCharge(t, b, 5, true)
	wantRemaining(t, b, 95, 2)
	wantState(t, b, 1, 0)
	wantCharge(t, b, 5, true)
	wantRemaining(t, b, 95, 2)
	wantCharge(t, b, 5, false)
	wantState(t, b, 2, 0)
	wantCharge(t, b, 10, true)
	wantState(t, b, 1, 1)
}

func TestRemainingCountsTheChargesThatWouldSucceed(t *testing.T) {
	for _, now := range []uint64{0, 19, 20, 29, 30, 95, api.MaxTick} {
		for used := range 5 {
			b := build(t, 4, 10)
			for range used {
				wantCharge(t, b, 25, true)
			}
			wantCharges(t, b, now, b.Remaining(now))
		}
	}
}

// P13.1: Used and Window

func TestStateAfterFailedCharge(t *testing.T) {
	b := build(t, 1, 10)
	wantState(t, b, 0, 0)
	wantCharge(t, b, 12, true)
	wantState(t, b, 1, 1)
	for _, now := range []uint64{12, 19, 10, 9, 0} {
		wantCharge(t, b, now, false)
		wantState(t, b, 1, 1)
	}
}

// P13.1 against a plain model

// log tells a window by the times of all charges so far, instead of keeping a state.
type log struct {
	limit   int
	width   uint64
	windows []uint64 // the current window at each charge
	granted []bool
}

func (l *log) window(now uint64) uint64 {
	latest := now / l.width
	for _, w := range l.windows {
		latest = max(latest, w)
	}
	return latest
}

func (l *log) used(window uint64) int {
	n := 0
	for i, w := range l.windows {
		if w == window && l.granted[i] {
			n++
		}
	}
	return n
}

func (l *log) charge(now uint64) bool {
	w := l.window(now)
	granted := l.used(w) < l.limit
	l.windows, l.granted = append(l.windows, w), append(l.granted, granted)
	return granted
}

type draws uint64

func (d *draws) below(n uint64) uint64 {
	*d = *d*6364136223846793005 + 1442695040888963407
	return uint64(*d>>33) % n
}

// drawTime draws a time that is mostly near now, on either side of it.
func drawTime(d *draws, now, width uint64) uint64 {
	switch d.below(8) {
	case 0:
		return now - min(now, d.below(3*width))
	case 1:
		return now + d.below(4*width)
	default:
		return now + d.below(width/4+2)
	}
}

// The test after each charge holds the consequence as well: at most n charges succeed in any window.
func TestAgainstLog(t *testing.T) {
	d := draws(13)
	for range 200 {
		n, width := int(d.below(6)), 1+d.below(12)
		b, l := build(t, n, width), &log{limit: n, width: width}
		now := d.below(50)
		for range 60 {
			now = drawTime(&d, now, width)
			wantRemaining(t, b, now, n-l.used(l.window(now)))
			wantState(t, b, l.used(l.window(0)), l.window(0))
			wantCharge(t, b, now, l.charge(now))
			wantState(t, b, l.used(l.window(0)), l.window(0))
		}
		if t.Failed() {
			t.Fatalf("New(%d, %d) differs", n, width)
		}
	}
}

// The section "Consequences" of the chapter

func TestAtMostNChargesSucceedInAnyWindow(t *testing.T) {
	d := draws(1313)
	for n := range 5 {
		for _, width := range []uint64{1, 2, 5, 10} {
			b, granted := build(t, n, width), map[uint64]int{}
			for range 500 {
				now := drawTime(&d, b.Window()*width, width)
				if b.Charge(now) {
					granted[b.Window()]++
				}
			}
			for w, times := range granted {
				if times > n {
					t.Errorf("New(%d, %d): %d charges succeeded in window %d", n, width, times, w)
				}
			}
		}
	}
}

// While time does not go back, the window of a charge is that of its time.
func TestAtMostNChargesSucceedWhileTimePasses(t *testing.T) {
	for n := range 4 {
		for _, width := range []uint64{1, 3, 10} {
			b, granted := build(t, n, width), map[uint64]int{}
			for now := range 5 * width {
				for range 3 {
					if b.Charge(now) {
						granted[now/width]++
					}
				}
			}
			for w := range uint64(5) {
				if want := min(n, int(3*width)); granted[w] != want {
					t.Errorf("New(%d, %d): %d charges succeeded in window %d, want %d", n, width, granted[w], w, want)
				}
			}
		}
	}
}

// The section "Examples" of the chapter

func TestExample(t *testing.T) {
	b := build(t, 1, 10)
	wantCharge(t, b, 5, true)
	wantCharge(t, b, 9, false)
	wantCharge(t, b, 10, true)
	wantCharge(t, b, 3, false)
}
