package history

import (
	"math"
	"math/rand"
	"slices"
	"testing"

	"archipelago/api"
)

// came tells the event by which the edge of u and v comes.
func came(t int64, u, v uint32) api.Event {
	return api.Event{T: t, Edge: api.Edge{U: u, V: v}, Add: true}
}

// went tells the event by which it goes.
func went(t int64, u, v uint32) api.Event {
	return api.Event{T: t, Edge: api.Edge{U: u, V: v}}
}

// of tells the history of n vertices with these events.
func of(n uint64, l ...api.Event) api.History {
	return api.History{N: n, Events: l}
}

// some is a Right history of five vertices: several events at one time, an edge that comes again, one that never goes.
func some() api.History {
	return of(5, came(0, 0, 1), came(0, 1, 2), came(0, 3, 4), went(3, 0, 1), came(3, 2, 3), came(5, 0, 1), went(9, 1, 2), went(9, 2, 3), came(10, 1, 2), went(12, 0, 1))
}

// times are moments at and around the ends of what a time may be.
var times = []int64{math.MinInt64, math.MinInt64 + 1, -1 << 32, -2, -1, 0, 1, 2, 3, 4, 5, 8, 9, 10, 11, 12, 13, 1 << 32, api.MaxTime - 1, api.MaxTime, api.MaxTime + 1, math.MaxInt64 - 1, math.MaxInt64}

// ahead tells if a is ahead of b: by time, then by U, then by V.
func ahead(a, b api.Event) bool {
	return slices.Compare(
		[]int64{a.T, int64(a.Edge.U), int64(a.Edge.V)},
		[]int64{b.T, int64(b.Edge.U), int64(b.Edge.V)}) < 0
}

// thereBehind tells if e is there behind the events of l: the last of its events says so.
func thereBehind(l []api.Event, e api.Edge) bool {
	for i := len(l) - 1; i >= 0; i-- {
		if l[i].Edge == e {
			return l[i].Add
		}
	}
	return false
}

// model is Check by the words of P9.1, each event held against all those ahead of it.
func model(h api.History) (int, api.Errno) {
	if h.N > 4294967296 {
		return 0, api.ErrLimit
	}
	for i, e := range h.Events {
		if e.T < 0 || e.T > 4611686018427387903 {
			return i, api.ErrLimit
		}
		if e.Edge.U >= e.Edge.V || uint64(e.Edge.V) >= h.N {
			return i, api.ErrVertex
		}
		if i > 0 && !ahead(h.Events[i-1], e) {
			return i, api.ErrOrder
		}
		if thereBehind(h.Events[:i], e.Edge) == e.Add {
			return i, api.ErrEdge
		}
	}
	return 0, api.OK
}

// someRight tells a Right history of so many vertices and at most so many events.
func someRight(r *rand.Rand, n, count int) api.History {
	h := api.History{N: uint64(n)}
	e := came(0, 0, 0)
	for range count {
		next := e
		if r.Intn(3) == 0 {
			next.T += int64(r.Intn(3))
		}
		next.Edge.V = uint32(r.Intn(n))
		next.Edge.U = uint32(r.Intn(n))
		if next.Edge.U >= next.Edge.V || len(h.Events) > 0 && !ahead(e, next) {
			continue
		}
		next.Add = !thereBehind(h.Events, next.Edge)
		h.Events = append(h.Events, next)
		e = next
	}
	return h
}

// damage changes one thing about h.
func damage(r *rand.Rand, h *api.History) {
	if len(h.Events) == 0 {
		h.N = r.Uint64()
		return
	}
	i, j := r.Intn(len(h.Events)), r.Intn(len(h.Events))
	e := &h.Events[i]
	switch r.Intn(8) {
	case 0:
		e.T += int64(r.Intn(5)) - 2
	case 1:
		e.T = times[r.Intn(len(times))]
	case 2:
		e.Edge.U += uint32(r.Intn(5)) - 2
	case 3:
		e.Edge.V += uint32(r.Intn(5)) - 2
	case 4:
		e.Add = !e.Add
	case 5:
		h.Events[i], h.Events[j] = h.Events[j], h.Events[i]
	case 6:
		*e = h.Events[j]
	case 7:
		h.N -= uint64(r.Intn(3))
	}
}

// expectCheck holds Check of h against what it should tell.
func expectCheck(t *testing.T, h api.History, at int, e api.Errno) {
	t.Helper()
	if i, err := Check(h); i != at || err != e {
		t.Errorf("Check(%v) = %d, %d; want %d, %d", h, i, err, at, e)
	}
}

// P9.1: who has no error is Right: 0 and OK.
func TestCheckOfRightOnes(t *testing.T) {
	last := uint32(api.MaxN - 1)
	for _, h := range []api.History{
		{},
		{Events: []api.Event{}},
		of(1),
		of(api.MaxN),
		of(2, came(0, 0, 1)),
		of(2, came(api.MaxTime, 0, 1)),
		of(api.MaxN, came(0, 0, last)),
		of(api.MaxN, came(api.MaxTime, last-1, last)),
		of(2, came(0, 0, 1), went(api.MaxTime, 0, 1)),
		of(2, came(4, 0, 1), went(5, 0, 1), came(6, 0, 1), went(7, 0, 1), came(8, 0, 1)),
		of(3, came(4, 0, 1), came(4, 0, 2), came(4, 1, 2), went(5, 0, 2), went(5, 1, 2)),
		of(4, came(4, 2, 3), came(5, 0, 1)),
		of(4, came(4, 0, 3), came(4, 1, 2)),
		some(),
	} {
		expectCheck(t, h, 0, api.OK)
	}
}

// P9.1: ErrLimit (0) of N, of how many, ahead of all that is wrong with the events.
func TestCheckOfTooManyVertices(t *testing.T) {
	for _, n := range []uint64{api.MaxN + 1, api.MaxN + 2, 1 << 33, 1 << 63, math.MaxUint64} {
		expectCheck(t, of(n), 0, api.ErrLimit)
		expectCheck(t, of(n, came(0, 0, 1), came(1, 0, 2)), 0, api.ErrLimit)
		expectCheck(t, of(n, came(0, 1, 0)), 0, api.ErrLimit)
		expectCheck(t, of(n, came(0, 0, 1), came(0, 0, 1)), 0, api.ErrLimit)
		expectCheck(t, of(n, went(0, 0, 1)), 0, api.ErrLimit)
	}
}

// P9.1: how many there may be of each; more events than MaxEvents are too many to hand them in here.
func TestFits(t *testing.T) {
	for _, x := range []struct {
		n, events uint64
		want      bool
	}{
		{0, 0, true},
		{1 << 32, 0, true},
		{0, 1 << 31, true},
		{1 << 32, 1 << 31, true},
		{1<<32 + 1, 0, false},
		{0, 1<<31 + 1, false},
		{1 << 32, 1<<31 + 1, false},
		{1<<32 + 1, 1 << 31, false},
		{math.MaxUint64, math.MaxUint64, false},
	} {
		if got := fits(x.n, x.events); got != x.want {
			t.Errorf("fits(%d, %d) = %v", x.n, x.events, got)
		}
	}
}

// P9.1: a time below 0 or above MaxTime, of whatever event.
func TestCheckOfTimes(t *testing.T) {
	for _, at := range times {
		want := api.OK
		if at < 0 || at > api.MaxTime {
			want = api.ErrLimit
		}
		expectCheck(t, of(2, came(at, 0, 1)), 0, want)
		if want != api.OK {
			expectCheck(t, of(3, came(0, 0, 1), came(at, 0, 2)), 1, want)
			expectCheck(t, of(3, came(0, 0, 1), came(at, 0, 2), came(7, 1, 2)), 1, want)
		}
	}
}

// P9.1: an edge that isn't Right: U not below V, V not below N.
func TestCheckOfVertices(t *testing.T) {
	for _, x := range []struct {
		n    uint64
		u, v uint32
		want api.Errno
	}{
		{0, 0, 0, api.ErrVertex},
		{0, 0, 1, api.ErrVertex},
		{1, 0, 1, api.ErrVertex},
		{2, 0, 1, api.OK},
		{2, 1, 0, api.ErrVertex},
		{2, 1, 1, api.ErrVertex},
		{9, 7, 8, api.OK},
		{9, 8, 9, api.ErrVertex},
		{9, 9, 10, api.ErrVertex},
		{9, 8, 7, api.ErrVertex},
		{api.MaxN - 1, 0, 1<<32 - 1, api.ErrVertex},
		{api.MaxN, 0, 1<<32 - 1, api.OK},
		{api.MaxN, 1<<32 - 1, 0, api.ErrVertex},
		{api.MaxN, 1<<32 - 1, 1<<32 - 1, api.ErrVertex},
	} {
		expectCheck(t, of(x.n, came(0, x.u, x.v)), 0, x.want)
		if x.n > 2 && x.want != api.OK {
			expectCheck(t, of(x.n, came(0, 0, 1), came(1, x.u, x.v), came(2, 1, 2)), 1, x.want)
		}
	}
}

// P9.1: the one ahead must be Before it, by time, by U, by V, whatever it does.
func TestCheckOfOrder(t *testing.T) {
	for _, x := range []struct {
		a, b api.Event
		want api.Errno
	}{
		{came(4, 1, 2), came(5, 0, 1), api.OK},
		{came(5, 0, 1), came(4, 1, 2), api.ErrOrder},
		{came(4, 0, 5), came(4, 1, 2), api.OK},
		{came(4, 1, 2), came(4, 0, 5), api.ErrOrder},
		{came(4, 1, 2), came(4, 1, 3), api.OK},
		{came(4, 1, 3), came(4, 1, 2), api.ErrOrder},
		{came(4, 1, 2), went(5, 1, 2), api.OK},
		{came(4, 1, 2), went(4, 1, 2), api.ErrOrder},
		{came(4, 1, 2), came(4, 1, 2), api.ErrOrder},
		{came(5, 1, 2), went(4, 1, 2), api.ErrOrder},
		{came(0, 1, 2), came(api.MaxTime, 0, 1), api.OK},
		{came(api.MaxTime, 0, 1), came(0, 1, 2), api.ErrOrder},
	} {
		at := 0
		if x.want != api.OK {
			at = 1
		}
		expectCheck(t, of(9, x.a, x.b), at, x.want)
	}
	expectCheck(t, of(9, came(0, 0, 1), came(3, 0, 2), came(2, 0, 3), came(1, 0, 4)), 2, api.ErrOrder)
	expectCheck(t, of(9, came(0, 0, 1), came(3, 0, 2), came(3, 0, 3), came(3, 0, 3)), 3, api.ErrOrder)
}

// P9.1: an edge comes only while it isn't there, and goes only while it is.
func TestCheckOfComingAndGoing(t *testing.T) {
	for _, x := range []struct {
		h  api.History
		at int
	}{
		{of(3, went(0, 0, 1)), 0},
		{of(3, came(0, 0, 1), went(1, 0, 2)), 1},
		{of(3, came(0, 0, 1), went(1, 1, 2)), 1},
		{of(3, came(0, 0, 1), came(1, 0, 1)), 1},
		{of(3, came(0, 0, 1), went(1, 0, 1), went(2, 0, 1)), 2},
		{of(3, came(0, 0, 1), went(1, 0, 1), came(2, 0, 1), came(3, 0, 1)), 3},
		{of(3, came(0, 0, 1), came(0, 0, 2), came(0, 1, 2), went(1, 0, 1), went(2, 0, 1)), 4},
		{of(3, came(0, 0, 1), came(0, 0, 2), came(0, 1, 2), went(1, 0, 2), came(2, 1, 2)), 4},
		{of(3, came(0, 0, 1), came(0, 0, 2), went(1, 0, 1), went(1, 0, 2), came(2, 0, 1), went(3, 0, 2)), 5},
	} {
		expectCheck(t, x.h, x.at, api.ErrEdge)
	}
}

// P9.1: of one event the error named first, of several the first one that is wrong.
func TestCheckTellsTheFirst(t *testing.T) {
	a := came(5, 1, 2)
	for _, x := range []struct {
		e    api.Event
		want api.Errno
	}{
		{went(-1, 2, 1), api.ErrLimit},
		{went(api.MaxTime+1, 7, 9), api.ErrLimit},
		{came(-1, 1, 2), api.ErrLimit},
		{went(-1, 0, 1), api.ErrLimit},
		{went(4, 2, 1), api.ErrVertex},
		{came(4, 0, 9), api.ErrVertex},
		{came(5, 0, 0), api.ErrVertex},
		{went(6, 3, 2), api.ErrVertex},
		{came(5, 1, 2), api.ErrOrder},
		{came(4, 1, 2), api.ErrOrder},
		{went(5, 0, 1), api.ErrOrder},
		{went(4, 2, 3), api.ErrOrder},
		{went(6, 0, 1), api.ErrEdge},
		{came(6, 1, 2), api.ErrEdge},
	} {
		expectCheck(t, of(4, a, x.e), 1, x.want)
		expectCheck(t, of(4, a, x.e, went(-1, 9, 9), a), 1, x.want)
		expectCheck(t, of(4, came(0, 0, 3), a, x.e, came(-1, 0, 1)), 2, x.want)
	}
}

// P9.1: all histories of up to three events out of a few, told as the chapter's words have it.
func TestCheckOfAllShortOnes(t *testing.T) {
	var all []api.Event
	for _, at := range []int64{-1, 0, 1, api.MaxTime, api.MaxTime + 1} {
		for _, e := range []api.Edge{{U: 0, V: 1}, {U: 0, V: 2}, {U: 1, V: 2}, {U: 1, V: 1}, {U: 1, V: 3}} {
			all = append(all, api.Event{T: at, Edge: e}, api.Event{T: at, Edge: e, Add: true})
		}
	}
	told := map[api.Errno]int{}
	check := func(h api.History) {
		at, e := model(h)
		expectCheck(t, h, at, e)
		told[e]++
	}
	for _, a := range all {
		check(of(3, a))
		for _, b := range all {
			check(of(3, a, b))
			for _, c := range all {
				check(of(3, a, b, c))
			}
		}
	}
	for _, e := range []api.Errno{api.OK, api.ErrLimit, api.ErrVertex, api.ErrOrder, api.ErrEdge} {
		if told[e] == 0 {
			t.Errorf("none of them has %d", e)
		}
	}
}

// P9.1: longer histories, as they are and with one thing or two changed.
func TestCheckAtRandom(t *testing.T) {
	r := rand.New(rand.NewSource(1))
	for i := range 3000 {
		h := someRight(r, 2+r.Intn(6), r.Intn(120))
		if at, e := model(h); at != 0 || e != api.OK {
			t.Fatalf("not Right: %v", h)
		}
		for range i % 3 {
			damage(r, &h)
		}
		at, e := model(h)
		expectCheck(t, h, at, e)
	}
}

// P9.1: the same asked again tells the same, at a history of many edges too.
func TestCheckOfManyEdges(t *testing.T) {
	const n = 300
	var l []api.Event
	for u := range uint32(n) {
		for v := u + 1; v < n; v++ {
			l = append(l, came(7, u, v))
		}
	}
	count := len(l)
	for _, e := range l[:count] {
		l = append(l, went(8, e.Edge.U, e.Edge.V))
	}
	h := of(n, l...)
	for range 3 {
		expectCheck(t, h, 0, api.OK)
	}
	h.Events = append(h.Events, went(9, n-2, n-1))
	for range 3 {
		expectCheck(t, h, 2*count, api.ErrEdge)
	}
	h.Events[2*count].Add = true
	expectCheck(t, h, 0, api.OK)
}

// P9.1: N alike, all events alike; nothing and an empty list are the same.
func TestSame(t *testing.T) {
	if !Same(api.History{}, of(0)) || !Same(of(0), api.History{Events: []api.Event{}}) || !Same(api.History{Events: []api.Event{}}, api.History{}) {
		t.Error("nothing isn't the same as an empty list")
	}
	if !Same(some(), some()) {
		t.Error("a history isn't the same as itself")
	}
	differ := func(name string, a, b api.History) {
		if Same(a, b) || Same(b, a) {
			t.Errorf("the same in spite of %s", name)
		}
	}
	differ("N of nothing", of(0), of(1))
	differ("N's highest bits", of(1), of(1<<32+1))
	differ("N", some(), of(6, some().Events...))
	differ("an event", of(5), of(5, came(0, 0, 1)))
	for i := range some().Events {
		for j, change := range []func(e *api.Event){
			func(e *api.Event) { e.T++ },
			func(e *api.Event) { e.T += 1 << 32 },
			func(e *api.Event) { e.Edge.U ^= 1 << 31 },
			func(e *api.Event) { e.Edge.V ^= 1 },
			func(e *api.Event) { e.Add = !e.Add },
			func(e *api.Event) { e.Edge.U, e.Edge.V = e.Edge.V, e.Edge.U },
		} {
			h := some()
			change(&h.Events[i])
			if Same(h, some()) || Same(some(), h) {
				t.Errorf("the same in spite of change %d of event %d", j, i)
			}
		}
		h := some()
		h.Events = h.Events[:i]
		differ("events that are missing", h, some())
		h = some()
		h.Events = slices.Delete(h.Events, i, i+1)
		differ("an event that is missing", h, some())
	}
}

// P9.1: histories that aren't Right are the same or aren't, like others.
func TestSameOfWrongOnes(t *testing.T) {
	wrong := func() api.History { return of(math.MaxUint64, went(-1, 3, 3), came(math.MinInt64, 9, 1)) }
	if !Same(wrong(), wrong()) {
		t.Error("a wrong history isn't the same as itself")
	}
	h := wrong()
	h.Events[0], h.Events[1] = h.Events[1], h.Events[0]
	if Same(h, wrong()) {
		t.Error("the same in another order")
	}
}

// P9.2: how many events have a time of at most t.
func TestUpto(t *testing.T) {
	for _, x := range []struct {
		t    int64
		want int
	}{
		{math.MinInt64, 0}, {-1, 0}, {0, 3}, {1, 3}, {2, 3}, {3, 5}, {4, 5}, {5, 6}, {8, 6}, {9, 8}, {10, 9}, {11, 9}, {12, 10}, {13, 10}, {api.MaxTime, 10}, {math.MaxInt64, 10},
	} {
		if got := Upto(some(), x.t); got != x.want {
			t.Errorf("Upto(%d) = %d, want %d", x.t, got, x.want)
		}
	}
	ends := of(api.MaxN, came(0, 0, 1), went(api.MaxTime, 0, 1))
	for _, at := range times {
		want := 0
		for _, e := range ends.Events {
			if e.T <= at {
				want++
			}
		}
		if got := Upto(ends, at); got != want {
			t.Errorf("Upto(%d) of the ends = %d, want %d", at, got, want)
		}
		if got := Upto(api.History{N: 3}, at); got != 0 {
			t.Errorf("Upto(%d) of nothing = %d", at, got)
		}
	}
}

// P9.2: Upto of whatever Right history at whatever time, counted one by one.
func TestUptoAtRandom(t *testing.T) {
	r := rand.New(rand.NewSource(2))
	for range 1000 {
		h := someRight(r, 2+r.Intn(6), r.Intn(80))
		for at := int64(-2); at <= Last(h)+2; at++ {
			want := 0
			for _, e := range h.Events {
				if e.T <= at {
					want++
				}
			}
			if got := Upto(h, at); got != want {
				t.Fatalf("Upto(%v, %d) = %d, want %d", h, at, got, want)
			}
		}
	}
}

// P9.2: of a history that isn't Right Upto ends all the same.
func TestUptoOfWrongOnes(t *testing.T) {
	r := rand.New(rand.NewSource(3))
	for range 1000 {
		h := api.History{N: r.Uint64()}
		for range r.Intn(20) {
			h.Events = append(h.Events, came(times[r.Intn(len(times))], r.Uint32(), r.Uint32()))
		}
		for _, at := range times {
			Upto(h, at)
		}
	}
}

// P9.2: the last event's time, which needn't be the greatest one; -1 of none.
func TestLast(t *testing.T) {
	for _, x := range []struct {
		h    api.History
		want int64
	}{
		{api.History{}, -1},
		{api.History{Events: []api.Event{}}, -1},
		{of(7), -1},
		{of(2, came(0, 0, 1)), 0},
		{of(2, came(api.MaxTime, 0, 1)), api.MaxTime},
		{of(2, came(3, 0, 1), went(8, 0, 1)), 8},
		{some(), 12},
		{of(2, came(8, 0, 1), went(3, 0, 1)), 3},
		{of(2, came(math.MinInt64, 0, 1)), math.MinInt64},
		{api.History{N: 5, Events: some().Events[:7]}, 9},
	} {
		if got := Last(x.h); got != x.want {
			t.Errorf("Last(%v) = %d, want %d", x.h, got, x.want)
		}
	}
}

// P9.2: Copy is the same, of histories that aren't Right too.
func TestCopyIsTheSame(t *testing.T) {
	for _, h := range []api.History{{}, {Events: []api.Event{}}, of(7), of(math.MaxUint64), of(2, came(0, 0, 1)), some(), of(1, went(-1, 3, 3), came(math.MinInt64, 9, 1))} {
		if c := Copy(h); c.N != h.N || !slices.Equal(c.Events, h.Events) {
			t.Errorf("Copy(%v) = %v", h, c)
		}
	}
}

// P9.2: Copy is new memory: what is done to the one, or behind it, leaves the other as it is.
func TestCopyIsNewMemory(t *testing.T) {
	all := some().Events
	h := api.History{N: 5, Events: all[:4]}
	c := Copy(h)
	for i := range c.Events {
		c.Events[i] = went(77, 8, 9)
	}
	_ = append(c.Events, went(78, 8, 9))
	if !slices.Equal(all, some().Events) {
		t.Errorf("what was copied is now %v", all)
	}
	c = Copy(h)
	for i := range all {
		all[i] = went(77, 8, 9)
	}
	if !slices.Equal(c.Events, some().Events[:4]) {
		t.Errorf("the copy is now %v", c.Events)
	}
	all = some().Events
	c = Copy(api.History{Events: all[:0]})
	_ = append(c.Events, went(78, 8, 9))
	if !slices.Equal(all, some().Events) {
		t.Errorf("what an empty copy was made of is now %v", all)
	}
	a, b := Copy(some()), Copy(some())
	a.Events[0].T = 1
	if !slices.Equal(b.Events, some().Events) {
		t.Error("two copies share memory")
	}
}

// P9.1, P9.2: what is handed in stays as it is, and what is behind it isn't looked at.
func TestHandedInStays(t *testing.T) {
	all := append(some().Events, went(-1, 3, 3), came(math.MinInt64, 9, 1))
	was := slices.Clone(all)
	h := api.History{N: 5, Events: all[:len(all)-2]}
	expectCheck(t, h, 0, api.OK)
	if !Same(h, some()) || Last(h) != 12 || Upto(h, 99) != 10 || !Same(Copy(h), some()) {
		t.Error("what is behind the list was looked at")
	}
	expectCheck(t, api.History{N: 5, Events: all}, len(all)-2, api.ErrLimit)
	if !slices.Equal(all, was) {
		t.Errorf("what was handed in is now %v", all)
	}
}
