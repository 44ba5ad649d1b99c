package fdtable

import (
	"math"
	"slices"
	"testing"

	"ginnel/api"
)

// model is the table of the document as a list of all successful calls of Open, which is searched from end to end.
type model struct {
	n    int
	list []opening
}

type opening struct {
	endpoint api.Endpoint
	number   int
	state    int // FDClosed after Close
}

func at(conn, attempt int) api.Endpoint {
	return api.Endpoint{Conn: conn, Attempt: attempt}
}

func (m *model) find(x api.Endpoint) *opening {
	for i := range m.list {
		if o := &m.list[i]; o.endpoint == x && o.state != api.FDClosed {
			return o
		}
	}
	return nil
}

func (m *model) numberIsTaken(number int) bool {
	return slices.ContainsFunc(m.list, func(o opening) bool { return o.number == number && o.state != api.FDClosed })
}

func (m *model) len() int {
	open := 0
	for _, o := range m.list {
		if o.state != api.FDClosed {
			open++
		}
	}
	return open
}

func (m *model) open(x api.Endpoint, pending bool) (int, api.Errno) {
	switch {
	case x.Conn < 0 || x.Conn > 1048575 || x.Attempt < 0 || x.Attempt > 64:
		return 0, api.ErrInvalid
	case m.find(x) != nil:
		return 0, api.ErrDuplicate
	case m.len() == m.n:
		return 0, api.ErrFull
	}
	number := 0
	for m.numberIsTaken(number) {
		number++
	}
	state := api.FDEstablished
	if pending {
		state = api.FDConnecting
	}
	m.list = append(m.list, opening{x, number, state})
	return number, api.OK
}

// The calls that change the state of an open endpoint.
const (
	callConnected = iota
	callRemoteShutdown
	callLocalShutdown
	callClose
	calls
)

// transitions lists for each call the states after it, by the state before it; -1 where the call is not permitted.
var transitions = [calls][6]int{
	callConnected:      {-1, api.FDEstablished, -1, -1, -1, -1},
	callRemoteShutdown: {-1, -1, api.FDRemoteShutdown, -1, api.FDBothShutdown, -1},
	callLocalShutdown:  {-1, -1, api.FDLocalShutdown, api.FDBothShutdown, -1, -1},
	callClose:          {-1, api.FDClosed, api.FDClosed, api.FDClosed, api.FDClosed, api.FDClosed},
}

func (m *model) call(call int, x api.Endpoint) api.Errno {
	o := m.find(x)
	if o == nil {
		return api.ErrNotFound
	}
	after := transitions[call][o.state]
	if after < 0 {
		return api.ErrState
	}
	o.state = after
	return api.OK
}

func (m *model) state(x api.Endpoint) int {
	if o := m.find(x); o != nil {
		return o.state
	}
	return api.FDClosed
}

func (m *model) number(x api.Endpoint) int {
	if o := m.find(x); o != nil {
		return o.number
	}
	return -1
}

// endpoints returns the open endpoints by repeatedly taking the least that is not yet listed.
func (m *model) endpoints() []api.Endpoint {
	var listed []api.Endpoint
	for range m.len() {
		least := at(math.MaxInt, 0)
		for _, o := range m.list {
			x := o.endpoint
			if o.state == api.FDClosed || slices.Contains(listed, x) {
				continue
			}
			if x.Conn < least.Conn || x.Conn == least.Conn && x.Attempt < least.Attempt {
				least = x
			}
		}
		listed = append(listed, least)
	}
	return listed
}

// pair is a table and a model that have seen the same calls.
type pair struct {
	t *testing.T
	l *Table
	m *model
}

func newPair(t *testing.T, n int, open ...api.Endpoint) pair {
	t.Helper()
	l, err := New(n)
	if l == nil || err != api.OK {
		t.Fatalf("New(%d) = %v, %d, want a table", n, l, err)
	}
	p := pair{t, l, &model{n: n}}
	for _, x := range open {
		p.open(x, false)
	}
	return p
}

func (p pair) open(x api.Endpoint, pending bool) {
	p.t.Helper()
	want, wantErr := p.m.open(x, pending)
	if got, err := p.l.Open(x, pending); got != want || err != wantErr {
		p.t.Fatalf("Open(%v, %v) = %d, %d, want %d, %d", x, pending, got, err, want, wantErr)
	}
	p.check(x)
}

func (p pair) call(call int, x api.Endpoint) {
	p.t.Helper()
	names := [calls]string{"Connected", "RemoteShutdown", "LocalShutdown", "Close"}
	functions := [calls]func(api.Endpoint) api.Errno{p.l.Connected, p.l.RemoteShutdown, p.l.LocalShutdown, p.l.Close}
	before, want := p.m.state(x), p.m.call(call, x)
	if got := functions[call](x); got != want {
		p.t.Fatalf("%s(%v) in state %d = %d, want %d", names[call], x, before, got, want)
	}
	p.check(x)
}

// check compares everything that the table tells with the model: of x, of all endpoints that were ever open, and of some around the limits.
func (p pair) check(x api.Endpoint) {
	p.t.Helper()
	if got, want := p.l.Len(), p.m.len(); got != want {
		p.t.Fatalf("Len() = %d, want %d", got, want)
	}
	if got, want := p.l.Free(), p.m.n-p.m.len(); got != want {
		p.t.Fatalf("Free() = %d, want %d", got, want)
	}
	if got, want := p.l.TotalOpened(), len(p.m.list); got != want {
		p.t.Fatalf("TotalOpened() = %d, want %d", got, want)
	}
	want := p.m.endpoints()
	if got := p.l.Endpoints(); !slices.Equal(got, want) {
		p.t.Fatalf("Endpoints() = %v, want %v", got, want)
	}
	asked := append(outside(), limits()...)
	asked = append(asked, x)
	for _, o := range p.m.list {
		asked = append(asked, o.endpoint)
	}
	for _, y := range asked {
		p.checkEndpoint(y)
		p.checkConn(y.Conn, want)
	}
}

func (p pair) checkEndpoint(x api.Endpoint) {
	p.t.Helper()
	if got, want := p.l.State(x), p.m.state(x); got != want {
		p.t.Fatalf("State(%v) = %d, want %d", x, got, want)
	}
	if got, want := p.l.Number(x), p.m.number(x); got != want {
		p.t.Fatalf("Number(%v) = %d, want %d", x, got, want)
	}
}

func (p pair) checkConn(conn int, endpoints []api.Endpoint) {
	p.t.Helper()
	var want []api.Endpoint
	for _, x := range endpoints {
		if x.Conn == conn {
			want = append(want, x)
		}
	}
	if got := p.l.OfConn(conn); !slices.Equal(got, want) {
		p.t.Fatalf("OfConn(%d) = %v, want %v", conn, got, want)
	}
}

// limits returns the valid endpoints at the limits and just inside them.
func limits() []api.Endpoint {
	var endpoints []api.Endpoint
	for _, conn := range []int{0, 1, api.MaxConn - 2, api.MaxConn - 1} {
		for _, attempt := range []int{0, 1, api.MaxAttempts - 1, api.MaxAttempts} {
			endpoints = append(endpoints, at(conn, attempt))
		}
	}
	return endpoints
}

// outside returns endpoints that are not valid: one of their parts or both lie just outside the limits or far away.
func outside() []api.Endpoint {
	var endpoints []api.Endpoint
	for _, conn := range []int{math.MinInt, -api.MaxConn, -1, api.MaxConn, api.MaxConn + 1, 1 << 32, math.MaxInt} {
		for _, attempt := range []int{-1, 0, 1, api.MaxAttempts, api.MaxAttempts + 1} {
			endpoints = append(endpoints, at(conn, attempt))
		}
	}
	for _, attempt := range []int{math.MinInt, -api.MaxAttempts, -1, api.MaxAttempts + 1, 1 << 32, math.MaxInt} {
		for _, conn := range []int{0, 7, api.MaxConn - 1} {
			endpoints = append(endpoints, at(conn, attempt))
		}
	}
	return endpoints
}

// P6.1

func TestNewChecksTheNumberOfDescriptors(t *testing.T) {
	for _, n := range []int{math.MinInt, -api.MaxDescriptors, -1, 0, api.MaxDescriptors + 1, 1 << 32, 1<<32 + 1, math.MaxInt} {
		if l, err := New(n); l != nil || err != api.ErrInvalid {
			t.Errorf("New(%d) = %v, %d, want nil, %d", n, l, err, api.ErrInvalid)
		}
	}
	for _, n := range []int{1, 2, api.MaxDescriptors - 1, api.MaxDescriptors} {
		newPair(t, n).check(at(0, 0))
	}
}

func TestOpenSelectsTheState(t *testing.T) {
	p := newPair(t, 4)
	p.open(at(5, 1), true)
	p.open(at(5, 0), false)
	if pending, other := p.l.State(at(5, 1)), p.l.State(at(5, 0)); pending != api.FDConnecting || other != api.FDEstablished {
		t.Errorf("the states are %d and %d, want FDConnecting and FDEstablished", pending, other)
	}
	p.open(at(5, 2), false) // an attempt may be established at once
	p.open(at(6, 0), true)  // and a client may be connecting
}

func TestOpenAtTheLimits(t *testing.T) {
	for _, pending := range []bool{false, true} {
		p := newPair(t, api.MaxDescriptors)
		for i, x := range limits() {
			p.open(x, pending)
			if got := p.l.Number(x); got != i {
				t.Errorf("Number(%v) = %d, want %d", x, got, i)
			}
		}
	}
}

func TestOpenOutsideTheLimits(t *testing.T) {
	p := newPair(t, 3, at(7, 0))
	for _, x := range outside() {
		if number, err := p.l.Open(x, true); number != 0 || err != api.ErrInvalid {
			t.Errorf("Open(%v) = %d, %d, want 0, %d", x, number, err, api.ErrInvalid)
		}
		p.check(x)
	}
}

// The number of the open endpoint is not 0, so that a result beside the error shows, and the other value of pending must not change its state.
func TestOpenOfAnOpenEndpoint(t *testing.T) {
	for _, pending := range []bool{false, true} {
		p := newPair(t, 4, at(1, 1))
		p.open(at(1, 2), pending)
		for _, again := range []bool{false, true} {
			if number, err := p.l.Open(at(1, 2), again); number != 0 || err != api.ErrDuplicate {
				t.Errorf("Open(%v) = %d, %d, want 0, %d", at(1, 2), number, err, api.ErrDuplicate)
			}
			p.check(at(1, 2))
		}
	}
}

func TestFullTable(t *testing.T) {
	for _, n := range []int{1, 2, 3} {
		p := newPair(t, n)
		for i := range n {
			p.open(at(i, i), i == 0)
		}
		for range 3 {
			if number, err := p.l.Open(at(9, 0), false); number != 0 || err != api.ErrFull {
				t.Errorf("Open in a full table = %d, %d, want 0, %d", number, err, api.ErrFull)
			}
			p.check(at(9, 0))
		}
		p.call(callClose, at(n-1, n-1))
		p.open(at(9, 0), false) // the refused calls have taken no room
		p.open(at(n-1, n-1), false)
	}
}

func TestOrderOfTheErrors(t *testing.T) {
	p := newPair(t, 2, at(3, 0), at(4, 64))
	for _, x := range outside() {
		if number, err := p.l.Open(x, false); number != 0 || err != api.ErrInvalid {
			t.Errorf("Open(%v) in a full table = %d, %d, want 0, %d", x, number, err, api.ErrInvalid)
		}
	}
	for _, x := range []api.Endpoint{at(3, 0), at(4, 64)} {
		if number, err := p.l.Open(x, false); number != 0 || err != api.ErrDuplicate {
			t.Errorf("Open(%v), which is open, in a full table = %d, %d, want 0, %d", x, number, err, api.ErrDuplicate)
		}
	}
	p.check(at(3, 0))
}

// Every set of descriptors is closed, in ascending, descending and mixed order; then other endpoints take the numbers.
func TestOpenTakesTheSmallestNumber(t *testing.T) {
	const n = 5
	for _, order := range [][]int{{0, 1, 2, 3, 4}, {4, 3, 2, 1, 0}, {2, 4, 0, 3, 1}} {
		for set := range 1 << n {
			p := newPair(t, n, at(8, 3), at(2, 0), at(8, 0), at(5, 1), at(2, 7))
			opened := slices.Clone(p.m.list)
			for _, i := range order {
				if set>>i&1 == 1 {
					p.call(callClose, opened[i].endpoint)
				}
			}
			for i := range n {
				p.open(at(5, 10-i), i%2 == 0)
			}
		}
	}
}

// Numbers beyond the open endpoints are not taken while a smaller one is unused, also in a table with much room.
func TestOpenPrefersAClosedNumberToANewOne(t *testing.T) {
	p := newPair(t, 100, at(0, 0), at(0, 1), at(0, 2), at(0, 3))
	p.call(callClose, at(0, 2))
	p.call(callClose, at(0, 0))
	for i := range 4 {
		p.open(at(1, i), true)
	}
	if got := p.l.Number(at(1, 0)); got != 0 {
		t.Errorf("the number after Close is %d, want 0", got)
	}
}

func TestAnEndpointMayGetAnotherNumberWhenItIsOpenedAgain(t *testing.T) {
	p := newPair(t, 3, at(1, 0), at(2, 0))
	p.call(callClose, at(1, 0))
	p.call(callClose, at(2, 0))
	p.open(at(2, 0), true)
	if number, state := p.l.Number(at(2, 0)), p.l.State(at(2, 0)); number != 0 || state != api.FDConnecting {
		t.Errorf("the reopened endpoint has number %d and state %d, want 0 and FDConnecting", number, state)
	}
}

// pathTo lists calls that bring an endpoint, opened with pending, to a state.
func pathTo(state int) []int {
	switch state {
	case api.FDEstablished:
		return []int{callConnected}
	case api.FDRemoteShutdown:
		return []int{callConnected, callRemoteShutdown}
	case api.FDLocalShutdown:
		return []int{callConnected, callLocalShutdown}
	case api.FDBothShutdown:
		return []int{callConnected, callLocalShutdown, callRemoteShutdown}
	}
	return nil
}

// Every call is made in every state, between endpoints that must not change.
func TestTransitions(t *testing.T) {
	x := at(4, 2)
	for state := api.FDConnecting; state <= api.FDBothShutdown; state++ {
		for call := range calls {
			p := newPair(t, 5, at(4, 1), at(3, 2), at(4, 3), at(5, 2))
			p.open(x, true)
			for _, step := range pathTo(state) {
				p.call(step, x)
			}
			if got := p.l.State(x); got != state {
				t.Fatalf("State(%v) = %d, want %d", x, got, state)
			}
			p.call(call, x)
			p.call(call, x) // and once more in the state that follows
		}
	}
}

// What the chapter says of the transitions, without the model.
func TestTransitionsOneByOne(t *testing.T) {
	for _, c := range []struct {
		pending bool
		calls   []int
		errs    []api.Errno
		states  []int
	}{
		{true, []int{callRemoteShutdown, callLocalShutdown, callConnected, callConnected},
			[]api.Errno{api.ErrState, api.ErrState, api.OK, api.ErrState},
			[]int{api.FDConnecting, api.FDConnecting, api.FDEstablished, api.FDEstablished}},
		{false, []int{callRemoteShutdown, callRemoteShutdown, callConnected, callLocalShutdown, callLocalShutdown, callRemoteShutdown, callConnected},
			[]api.Errno{api.OK, api.ErrState, api.ErrState, api.OK, api.ErrState, api.ErrState, api.ErrState},
			[]int{api.FDRemoteShutdown, api.FDRemoteShutdown, api.FDRemoteShutdown, api.FDBothShutdown, api.FDBothShutdown, api.FDBothShutdown, api.FDBothShutdown}},
		{false, []int{callLocalShutdown, callLocalShutdown, callConnected, callRemoteShutdown, callClose, callClose, callConnected},
			[]api.Errno{api.OK, api.ErrState, api.ErrState, api.OK, api.OK, api.ErrNotFound, api.ErrNotFound},
			[]int{api.FDLocalShutdown, api.FDLocalShutdown, api.FDLocalShutdown, api.FDBothShutdown, api.FDClosed, api.FDClosed, api.FDClosed}},
	} {
		p := newPair(t, 1)
		x := at(0, 64)
		p.open(x, c.pending)
		functions := [calls]func(api.Endpoint) api.Errno{p.l.Connected, p.l.RemoteShutdown, p.l.LocalShutdown, p.l.Close}
		for i, call := range c.calls {
			if err, state := functions[call](x), p.l.State(x); err != c.errs[i] || state != c.states[i] {
				t.Errorf("call %d of %v: error %d and state %d, want %d and %d", i, c.calls, err, state, c.errs[i], c.states[i])
			}
		}
	}
}

// Never opened, closed again, and not valid.
func TestCallsOfEndpointsThatAreNotOpen(t *testing.T) {
	p := newPair(t, 4, at(1, 1), at(1, 3), at(2, 1))
	p.call(callClose, at(1, 1))
	absent := append(outside(), at(1, 1), at(1, 2), at(2, 3), at(3, 1), at(0, 0))
	for _, x := range absent {
		for call := range calls {
			p.call(call, x)
		}
		functions := []func(api.Endpoint) api.Errno{p.l.Connected, p.l.RemoteShutdown, p.l.LocalShutdown, p.l.Close}
		for _, f := range functions {
			if err := f(x); err != api.ErrNotFound {
				t.Errorf("a call of %v, which is not open, = %d, want %d", x, err, api.ErrNotFound)
			}
		}
	}
	p.check(at(1, 1))
}

func TestCloseLeavesTheOthers(t *testing.T) {
	open := []api.Endpoint{at(2, 1), at(1, 0), at(2, 0), at(3, 64), at(2, 5)}
	for _, x := range open {
		p := newPair(t, 6, open...)
		p.call(callRemoteShutdown, at(2, 0))
		p.call(callLocalShutdown, at(2, 5))
		p.call(callClose, x)
		p.call(callClose, x)
	}
}

// P6.2

func TestStateAndNumber(t *testing.T) {
	p := newPair(t, 3, at(7, 0), at(7, 1))
	p.call(callClose, at(7, 0))
	for _, c := range []struct {
		x             api.Endpoint
		state, number int
	}{
		{at(7, 1), api.FDEstablished, 1},
		{at(7, 0), api.FDClosed, -1}, // closed again
		{at(7, 2), api.FDClosed, -1}, // never opened
		{at(1, 7), api.FDClosed, -1},
		{at(-1, 1), api.FDClosed, -1}, // not valid
		{at(api.MaxConn, 0), api.FDClosed, -1},
		{at(7, -1), api.FDClosed, -1},
		{at(7, api.MaxAttempts+1), api.FDClosed, -1},
	} {
		if state, number := p.l.State(c.x), p.l.Number(c.x); state != c.state || number != c.number {
			t.Errorf("%v has state %d and number %d, want %d and %d", c.x, state, number, c.state, c.number)
		}
	}
}

func TestNumberKeepsWhileTheStateChanges(t *testing.T) {
	p := newPair(t, 4, at(9, 9), at(8, 8))
	x := at(1, 1)
	p.open(x, true)
	for _, call := range []int{callConnected, callLocalShutdown, callRemoteShutdown} {
		p.call(call, x)
		if got := p.l.Number(x); got != 2 {
			t.Errorf("Number(%v) = %d, want 2", x, got)
		}
	}
	p.call(callClose, at(9, 9)) // nor does it change when a smaller number is unused
	if got := p.l.Number(x); got != 2 {
		t.Errorf("Number(%v) = %d, want 2", x, got)
	}
}

// The order is that of Conn and Attempt as numbers, not that of opening, of descriptor numbers or of digits.
func TestOrderOfTheEndpoints(t *testing.T) {
	p := newPair(t, 9, at(10, 2), at(9, 10), at(api.MaxConn-1, 0), at(9, 2), at(100, 1), at(9, 0), at(0, 64), at(10, 0))
	want := []api.Endpoint{at(0, 64), at(9, 0), at(9, 2), at(9, 10), at(10, 0), at(10, 2), at(100, 1), at(api.MaxConn-1, 0)}
	if got := p.l.Endpoints(); !slices.Equal(got, want) {
		t.Errorf("Endpoints() = %v, want %v", got, want)
	}
	for conn, want := range map[int][]api.Endpoint{
		9:               {at(9, 0), at(9, 2), at(9, 10)},
		10:              {at(10, 0), at(10, 2)},
		0:               {at(0, 64)},
		api.MaxConn - 1: {at(api.MaxConn-1, 0)},
		1:               nil,
		-1:              nil,
		api.MaxConn:     nil,
		math.MinInt:     nil,
		math.MaxInt:     nil,
	} {
		if got := p.l.OfConn(conn); !slices.Equal(got, want) {
			t.Errorf("OfConn(%d) = %v, want %v", conn, got, want)
		}
	}
	p.call(callClose, at(9, 2))
	p.open(at(9, 1), true) // endpoints in every state are listed
	p.call(callRemoteShutdown, at(9, 10))
}

func TestCounts(t *testing.T) {
	p := newPair(t, 3)
	counts := func(open, free, opened int) {
		t.Helper()
		if p.l.Len() != open || p.l.Free() != free || p.l.TotalOpened() != opened {
			t.Errorf("Len, Free and TotalOpened are %d, %d and %d, want %d, %d and %d", p.l.Len(), p.l.Free(), p.l.TotalOpened(), open, free, opened)
		}
	}
	counts(0, 3, 0)
	p.open(at(1, 0), true)
	counts(1, 2, 1)
	p.open(at(1, 0), true) // refused: open already
	p.open(at(-1, 0), true)
	counts(1, 2, 1)
	p.call(callConnected, at(1, 0))
	p.call(callRemoteShutdown, at(1, 0))
	p.call(callLocalShutdown, at(1, 0))
	counts(1, 2, 1)
	p.open(at(1, 1), false)
	p.open(at(1, 2), false)
	p.open(at(1, 3), false) // refused: full
	counts(3, 0, 3)
	p.call(callClose, at(1, 0))
	p.call(callClose, at(1, 0)) // refused: not open
	counts(2, 1, 3)
	p.open(at(1, 0), false) // the same endpoint counts again
	counts(3, 0, 4)
}

// A table of one descriptor is filled and emptied often: TotalOpened exceeds every limit of the table.
func TestTotalOpenedHasNoLimit(t *testing.T) {
	l, _ := New(1)
	const times = 3 * api.MaxDescriptors
	for i := range times {
		if number, err := l.Open(at(i, i%65), false); number != 0 || err != api.OK {
			t.Fatalf("Open = %d, %d in round %d, want 0, OK", number, err, i)
		}
		if err := l.Close(at(i, i%65)); err != api.OK {
			t.Fatalf("Close = %d in round %d, want OK", err, i)
		}
	}
	if l.TotalOpened() != times || l.Len() != 0 || l.Free() != 1 || len(l.Endpoints()) != 0 {
		t.Errorf("TotalOpened, Len and Free are %d, %d and %d, want %d, 0 and 1", l.TotalOpened(), l.Len(), l.Free(), times)
	}
}

func TestLargestTable(t *testing.T) {
	l, _ := New(api.MaxDescriptors)
	conn := func(i int) api.Endpoint { return at((i*7919+13)%api.MaxConn, i%65) }
	for i := range api.MaxDescriptors {
		if number, err := l.Open(conn(i), i%2 == 0); number != i || err != api.OK {
			t.Fatalf("Open %d = %d, %d, want %d, OK", i, number, err, i)
		}
	}
	if number, err := l.Open(conn(api.MaxDescriptors), false); number != 0 || err != api.ErrFull {
		t.Errorf("Open in a full table = %d, %d, want 0, %d", number, err, api.ErrFull)
	}
	for i := range api.MaxDescriptors {
		if number, state := l.Number(conn(i)), l.State(conn(i)); number != i || state != api.FDEstablished-(i+1)%2 {
			t.Errorf("endpoint %d has number %d and state %d", i, number, state)
		}
	}
	for _, i := range []int{api.MaxDescriptors - 1, 128, 0, 77} {
		l.Close(conn(i))
	}
	for i, want := range []int{0, 77, 128, api.MaxDescriptors - 1} {
		if number, err := l.Open(at(1, i), false); number != want || err != api.OK {
			t.Errorf("Open after Close = %d, %d, want %d, OK", number, err, want)
		}
	}
	if l.Len() != api.MaxDescriptors || l.Free() != 0 || l.TotalOpened() != api.MaxDescriptors+4 {
		t.Errorf("Len, Free and TotalOpened are %d, %d and %d", l.Len(), l.Free(), l.TotalOpened())
	}
}

// A fixed recurrence stands in for chance: every run makes the same calls.
func TestManyCalls(t *testing.T) {
	state := uint64(1)
	draw := func(n int) int {
		state = state*6364136223846793005 + 1442695040888963407
		return int((state >> 33) % uint64(n))
	}
	for _, n := range []int{1, 2, 7, 20} {
		p := newPair(t, n)
		for range 400 {
			x := at(draw(4)-draw(8)/7, draw(n+2)-draw(8)/7)
			if draw(2) == 0 {
				p.open(x, draw(2) == 0)
			} else {
				p.call(draw(calls), x)
			}
		}
	}
}

// The section "Consequences" of the chapter.

func TestNumbersDifferAndAreLessThanN(t *testing.T) {
	const n = 6
	p := newPair(t, n)
	for i := range 300 {
		p.open(at(i*5%11, i*3%7), i%2 == 0)
		p.call(callClose, at(i*7%11, i*2%7))
		var taken [n]bool
		for _, x := range p.l.Endpoints() {
			number := p.l.Number(x)
			if number < 0 || number >= n || taken[number] {
				t.Fatalf("step %d: the number %d of %v is taken or not less than %d", i, number, x, n)
			}
			taken[number] = true
		}
	}
}

// R2: tables do not share endpoints, numbers or counts.

func TestTablesAreIndependent(t *testing.T) {
	a, b := newPair(t, 3, at(1, 0), at(1, 1)), newPair(t, 2)
	b.open(at(1, 0), true)
	a.call(callRemoteShutdown, at(1, 0))
	b.call(callConnected, at(1, 0))
	a.call(callClose, at(1, 0))
	b.open(at(2, 0), false)
	a.check(at(2, 0))
	b.check(at(1, 1))
}

// R3: the lists that OfConn and Endpoints return are the caller's.

func TestListsAreFreshMemory(t *testing.T) {
	p := newPair(t, 6, at(2, 1), at(2, 0), at(1, 3), at(2, 4))
	for _, list := range []func() []api.Endpoint{p.l.Endpoints, func() []api.Endpoint { return p.l.OfConn(2) }} {
		first, second := list(), list()
		want := slices.Clone(second)
		for i := range first[:cap(first)] {
			first[:cap(first)][i] = at(5, 5)
		}
		if !slices.Equal(second, want) {
			t.Errorf("a second list became %v, want %v", second, want)
		}
		p.check(at(5, 5))
		p.call(callClose, at(2, 0))
		p.open(at(2, 0), true)
		p.open(at(0, 0), true)
		if !slices.Equal(second, want) {
			t.Errorf("after later calls, an earlier list became %v, want %v", second, want)
		}
		p.call(callClose, at(0, 0))
	}
}

// The section "Examples" of the chapter.

func TestExample(t *testing.T) {
	l, _ := New(2)
	if number, err := l.Open(at(7, 0), false); number != 0 || err != api.OK {
		t.Errorf("Open({7 0}, false) = %d, %d, want 0, OK", number, err)
	}
	if number, err := l.Open(at(7, 1), true); number != 1 || err != api.OK {
		t.Errorf("Open({7 1}, true) = %d, %d, want 1, OK", number, err)
	}
	if err := l.Close(at(7, 0)); err != api.OK {
		t.Errorf("Close({7 0}) = %d, want OK", err)
	}
	if number, err := l.Open(at(9, 0), false); number != 0 || err != api.OK {
		t.Errorf("Open({9 0}, false) = %d, %d, want 0, OK", number, err)
	}
}
