package life

import (
	"math"
	"math/rand"
	"slices"
	"testing"

	"archipelago/api"
	"archipelago/history"
)

// lasted tells the life of the edge of u and v from one time to another.
func lasted(u, v uint32, from, to int64) api.Life {
	return api.Life{Edge: api.Edge{U: u, V: v}, From: from, To: to}
}

// turned tells the event by which the edge of u and v comes, or goes.
func turned(at int64, u, v uint32, add bool) api.Event {
	return api.Event{T: at, Edge: api.Edge{U: u, V: v}, Add: add}
}

// someHistory is a Right history of five vertices: several events at one time, an edge that comes again, one that never goes.
func someHistory() api.History {
	return api.History{N: 5, Events: []api.Event{
		turned(0, 0, 1, true), turned(0, 1, 2, true), turned(0, 3, 4, true),
		turned(3, 0, 1, false), turned(3, 2, 3, true),
		turned(5, 0, 1, true),
		turned(9, 1, 2, false), turned(9, 2, 3, false),
		turned(10, 1, 2, true), turned(12, 0, 1, false),
	}}
}

// someLives are the lives of someHistory.
func someLives() []api.Life {
	return []api.Life{lasted(0, 1, 0, 3), lasted(0, 1, 5, 12), lasted(1, 2, 0, 9), lasted(1, 2, 10, -1), lasted(2, 3, 3, 9), lasted(3, 4, 0, -1)}
}

// times are moments at and around the ends of what a time may be.
var times = []int64{math.MinInt64, math.MinInt64 + 1, -1 << 32, -2, -1, 0, 1, 2, 3, 4, 5, 8, 9, 10, 11, 12, 13, 1 << 32, api.MaxTime - 1, api.MaxTime, api.MaxTime + 1, math.MaxInt64 - 1, math.MaxInt64}

// compareEdges holds a against b: by U, then by V.
func compareEdges(a, b api.Edge) int {
	return slices.Compare([]uint32{a.U, a.V}, []uint32{b.U, b.V})
}

// compareEvents holds a against b: by time, then by edge.
func compareEvents(a, b api.Event) int {
	if a.T != b.T {
		return slices.Compare([]int64{a.T}, []int64{b.T})
	}
	return compareEdges(a.Edge, b.Edge)
}

// modelOf is Of by the words of P10.1, of a Right history: edge by edge, life by life.
func modelOf(h api.History) []api.Life {
	var edges []api.Edge
	for _, e := range h.Events {
		edges = append(edges, e.Edge)
	}
	slices.SortFunc(edges, compareEdges)
	var l []api.Life
	for _, edge := range slices.Compact(edges) {
		for i, e := range h.Events {
			if e.Edge == edge && e.Add {
				l = append(l, lasted(edge.U, edge.V, e.T, nextGoing(h.Events[i+1:], edge)))
			}
		}
	}
	return l
}

// nextGoing tells when edge goes next; -1: it doesn't.
func nextGoing(l []api.Event, edge api.Edge) int64 {
	for _, e := range l {
		if e.Edge == edge && !e.Add {
			return e.T
		}
	}
	return -1
}

// modelCheck is Check by the words of P10.1.
func modelCheck(n uint64, l []api.Life) (int, api.Errno) {
	if n > 4294967296 {
		return 0, api.ErrLimit
	}
	for i, x := range l {
		if x.From < 0 || x.From > 4611686018427387903 {
			return i, api.ErrLimit
		}
		if x.To > 4611686018427387903 {
			return i, api.ErrLimit
		}
		if x.Edge.U >= x.Edge.V || uint64(x.Edge.V) >= n {
			return i, api.ErrVertex
		}
		if x.To >= 0 && x.From >= x.To {
			return i, api.ErrOrder
		}
		if i == 0 {
			continue
		}
		order := compareEdges(l[i-1].Edge, x.Edge)
		if order > 0 || order == 0 && (l[i-1].To < 0 || l[i-1].To >= x.From) {
			return i, api.ErrOrder
		}
	}
	return 0, api.OK
}

// modelBack is Back by the words of P10.1, of Right lives: each comes, and goes if it does.
func modelBack(n uint64, l []api.Life) api.History {
	h := api.History{N: n}
	for _, x := range l {
		h.Events = append(h.Events, turned(x.From, x.Edge.U, x.Edge.V, true))
		if x.To >= 0 {
			h.Events = append(h.Events, turned(x.To, x.Edge.U, x.Edge.V, false))
		}
	}
	slices.SortFunc(h.Events, compareEvents)
	return h
}

// thereBehind tells if e is there behind the events of l: the last of its events says so.
func thereBehind(l []api.Event, e api.Edge) bool {
	for i := len(l) - 1; i >= 0; i-- {
		if l[i].Edge == e {
			return l[i].Add
		}
	}
	return false
}

// someRight tells a Right history of so many vertices and at most so many events, the edges of some from far apart.
func someRight(r *rand.Rand, n uint64, count int) api.History {
	h := api.History{N: n}
	var at int64
	for range count {
		if r.Intn(3) == 0 {
			at += int64(r.Intn(3))
		}
		a, b := uint32(r.Uint64()%n), uint32(r.Uint64()%n)
		if len(h.Events) > 0 && r.Intn(2) == 0 {
			e := h.Events[r.Intn(len(h.Events))].Edge
			a, b = e.U, e.V
		}
		e := turned(at, min(a, b), max(a, b), true)
		if a == b || len(h.Events) > 0 && compareEvents(h.Events[len(h.Events)-1], e) >= 0 {
			continue
		}
		e.Add = !thereBehind(h.Events, e.Edge)
		h.Events = append(h.Events, e)
	}
	return h
}

// someN tells how many vertices there are: few or many.
func someN(r *rand.Rand) uint64 {
	if r.Intn(3) == 0 {
		return api.MaxN
	}
	return uint64(2 + r.Intn(6))
}

// damageEvents changes one thing about h.
func damageEvents(r *rand.Rand, h *api.History) {
	if len(h.Events) == 0 {
		h.N = r.Uint64()
		return
	}
	i, j := r.Intn(len(h.Events)), r.Intn(len(h.Events))
	e := &h.Events[i]
	switch r.Intn(6) {
	case 0:
		e.T = times[r.Intn(len(times))]
	case 1:
		e.Edge.V += uint32(r.Intn(5)) - 2
	case 2:
		e.Add = !e.Add
	case 3:
		h.Events[i], h.Events[j] = h.Events[j], h.Events[i]
	case 4:
		*e = h.Events[j]
	case 5:
		h.N -= uint64(r.Intn(3))
	}
}

// damageLives changes one thing about l.
func damageLives(r *rand.Rand, l []api.Life) {
	if len(l) == 0 {
		return
	}
	i, j := r.Intn(len(l)), r.Intn(len(l))
	x := &l[i]
	switch r.Intn(9) {
	case 0:
		x.From += int64(r.Intn(5)) - 2
	case 1:
		x.From = times[r.Intn(len(times))]
	case 2:
		x.To += int64(r.Intn(5)) - 2
	case 3:
		x.To = times[r.Intn(len(times))]
	case 4:
		x.Edge.U += uint32(r.Intn(5)) - 2
	case 5:
		x.Edge.V += uint32(r.Intn(5)) - 2
	case 6:
		l[i], l[j] = l[j], l[i]
	case 7:
		*x = l[j]
	case 8:
		x.Edge.U, x.Edge.V = x.Edge.V, x.Edge.U
	}
}

// expectOf holds Of h against the lives and the error that it should tell.
func expectOf(t *testing.T, h api.History, want []api.Life, e api.Errno) {
	t.Helper()
	if l, err := Of(h); !slices.Equal(l, want) || err != e {
		t.Errorf("Of(%v) = %v, %d; want %v, %d", h, l, err, want, e)
	}
}

// expectCheck holds Check, and the error of Back, against what they should tell.
func expectCheck(t *testing.T, n uint64, l []api.Life, at int, e api.Errno) {
	t.Helper()
	if i, err := Check(n, l); i != at || err != e {
		t.Errorf("Check(%d, %v) = %d, %d; want %d, %d", n, l, i, err, at, e)
	}
	h, err := Back(n, l)
	if err != e {
		t.Errorf("Back(%d, %v) tells %d; want %d", n, l, err, e)
	}
	if e != api.OK && (h.N != 0 || len(h.Events) != 0) {
		t.Errorf("Back(%d, %v) tells %v beside %d", n, l, h, err)
	}
}

// expectBack holds Back against the history that it should tell.
func expectBack(t *testing.T, n uint64, l []api.Life, want api.History) {
	t.Helper()
	if h, e := Back(n, l); !history.Same(h, want) || e != api.OK {
		t.Errorf("Back(%d, %v) = %v, %d; want %v", n, l, h, e, want)
	}
}

// both are a history's lives, and the lives' history.
type both struct {
	h api.History
	l []api.Life
}

// pairs are some that tell of each other, at the ends of what may be.
func pairs() []both {
	last := uint32(api.MaxN - 1)
	events := func(n uint64, l ...api.Event) api.History { return api.History{N: n, Events: l} }
	return []both{
		{events(0), nil},
		{events(9), nil},
		{events(api.MaxN), []api.Life{}},
		{events(2, turned(0, 0, 1, true)), []api.Life{lasted(0, 1, 0, -1)}},
		{events(2, turned(0, 0, 1, true), turned(1, 0, 1, false)), []api.Life{lasted(0, 1, 0, 1)}},
		{events(2, turned(api.MaxTime, 0, 1, true)), []api.Life{lasted(0, 1, api.MaxTime, -1)}},
		{events(2, turned(api.MaxTime-1, 0, 1, true), turned(api.MaxTime, 0, 1, false)), []api.Life{lasted(0, 1, api.MaxTime-1, api.MaxTime)}},
		{events(api.MaxN, turned(0, last-1, last, true), turned(api.MaxTime, last-1, last, false)), []api.Life{lasted(last-1, last, 0, api.MaxTime)}},
		{
			events(2, turned(4, 0, 1, true), turned(5, 0, 1, false), turned(6, 0, 1, true), turned(7, 0, 1, false), turned(8, 0, 1, true)),
			[]api.Life{lasted(0, 1, 4, 5), lasted(0, 1, 6, 7), lasted(0, 1, 8, -1)},
		},
		{
			events(4, turned(4, 2, 3, true), turned(5, 0, 1, true), turned(6, 0, 1, false), turned(7, 2, 3, false)),
			[]api.Life{lasted(0, 1, 5, 6), lasted(2, 3, 4, 7)},
		},
		{
			events(4, turned(4, 0, 3, true), turned(5, 1, 2, true), turned(5, 1, 3, true), turned(6, 0, 2, true)),
			[]api.Life{lasted(0, 2, 6, -1), lasted(0, 3, 4, -1), lasted(1, 2, 5, -1), lasted(1, 3, 5, -1)},
		},
		{
			events(api.MaxN, turned(1, 1<<31, last, true), turned(2, 1, 1<<31, true), turned(3, 1, 2, true)),
			[]api.Life{lasted(1, 2, 3, -1), lasted(1, 1<<31, 2, -1), lasted(1<<31, last, 1, -1)},
		},
		{someHistory(), someLives()},
	}
}

// P10.1: each life of each edge, from where it comes to where it goes next, by Edge, then by From; and back.
func TestOfAndBackOfPairs(t *testing.T) {
	for _, x := range pairs() {
		expectOf(t, x.h, x.l, api.OK)
		expectBack(t, x.h.N, x.l, x.h)
		expectCheck(t, x.h.N, x.l, 0, api.OK)
	}
}

// P10.1: of what isn't Right Of tells history.Check's error and no lives.
func TestOfWrongOnes(t *testing.T) {
	for i, x := range []struct {
		change func(h *api.History)
		want   api.Errno
	}{
		{func(h *api.History) { h.N = api.MaxN + 1 }, api.ErrLimit},
		{func(h *api.History) { h.N = math.MaxUint64 }, api.ErrLimit},
		{func(h *api.History) { h.Events[0].T = -1 }, api.ErrLimit},
		{func(h *api.History) { h.Events[9].T = api.MaxTime + 1 }, api.ErrLimit},
		{func(h *api.History) { h.N = 4 }, api.ErrVertex},
		{func(h *api.History) { h.Events[5].Edge = api.Edge{U: 1, V: 0} }, api.ErrVertex},
		{func(h *api.History) { h.Events[5].Edge = api.Edge{U: 1, V: 1} }, api.ErrVertex},
		{func(h *api.History) { h.Events[8].T = 8 }, api.ErrOrder},
		{func(h *api.History) { h.Events[1], h.Events[2] = h.Events[2], h.Events[1] }, api.ErrOrder},
		{func(h *api.History) { h.Events[9] = h.Events[8] }, api.ErrOrder},
		{func(h *api.History) { h.Events[9].Add = true }, api.ErrEdge},
		{func(h *api.History) { h.Events[0].Add = false }, api.ErrEdge},
		{func(h *api.History) { h.Events[9].Edge = api.Edge{U: 0, V: 4} }, api.ErrEdge},
		{func(h *api.History) { h.Events[4].T, h.Events[6].Add = -1, true }, api.ErrLimit},
		{func(h *api.History) { h.Events[4].Add, h.Events[6].T = false, -1 }, api.ErrEdge},
	} {
		h := someHistory()
		x.change(&h)
		if l, e := Of(h); len(l) != 0 || e != x.want {
			t.Errorf("change %d: Of tells %v, %d; want %d", i, l, e, x.want)
		}
	}
	if l, e := Of(api.History{N: api.MaxN + 1}); len(l) != 0 || e != api.ErrLimit {
		t.Errorf("Of nothing of too many vertices tells %v, %d", l, e)
	}
}

// P10.1: Of whatever history, as it is and with one thing or two changed.
func TestOfAtRandom(t *testing.T) {
	r := rand.New(rand.NewSource(1))
	wrong := 0
	for i := range 3000 {
		h := someRight(r, someN(r), r.Intn(100))
		expectOf(t, h, modelOf(h), api.OK)
		for range i % 3 {
			damageEvents(r, &h)
		}
		if _, e := history.Check(h); e != api.OK {
			wrong++
			expectOf(t, h, nil, e)
		} else {
			expectOf(t, h, modelOf(h), api.OK)
		}
	}
	if wrong < 500 {
		t.Errorf("only %d histories were wrong", wrong)
	}
}

// P10.1: a history of many edges, which come in one order and go in another.
func TestOfManyEdges(t *testing.T) {
	const n = 200
	h := api.History{N: n}
	var want []api.Life
	for u := range uint32(n) {
		for v := u + 1; v < n; v++ {
			from, to := int64(n-v), int64(n+u)
			want = append(want, lasted(u, v, from, to))
			h.Events = append(h.Events, turned(from, u, v, true), turned(to, u, v, false))
		}
	}
	slices.SortFunc(h.Events, compareEvents)
	for range 3 {
		if l, e := Of(h); !slices.Equal(l, want) || e != api.OK {
			t.Fatalf("Of tells other lives, or %d", e)
		}
		if back, e := Back(n, want); !history.Same(back, h) || e != api.OK {
			t.Fatalf("Back tells another history, or %d", e)
		}
	}
}

// P10.1: one edge that comes and goes many times.
func TestOfManyLives(t *testing.T) {
	const count = 20000
	h := api.History{N: 2}
	var want []api.Life
	for i := range int64(count) {
		want = append(want, lasted(0, 1, 2*i, 2*i+1))
		h.Events = append(h.Events, turned(2*i, 0, 1, true), turned(2*i+1, 0, 1, false))
	}
	want[count-1].To = -1
	h.Events = h.Events[:2*count-1]
	if l, e := Of(h); !slices.Equal(l, want) || e != api.OK {
		t.Fatalf("Of tells other lives, or %d", e)
	}
	if back, e := Back(2, want); !history.Same(back, h) || e != api.OK {
		t.Fatalf("Back tells another history, or %d", e)
	}
}

// P10.1: ErrLimit (0) of n, ahead of all that is wrong with the lives.
func TestCheckOfTooManyVertices(t *testing.T) {
	expectCheck(t, api.MaxN, nil, 0, api.OK)
	for _, n := range []uint64{api.MaxN + 1, api.MaxN + 2, 1 << 33, 1 << 63, math.MaxUint64} {
		expectCheck(t, n, nil, 0, api.ErrLimit)
		expectCheck(t, n, someLives(), 0, api.ErrLimit)
		expectCheck(t, n, []api.Life{lasted(1, 1, 0, 5)}, 0, api.ErrLimit)
		expectCheck(t, n, []api.Life{lasted(0, 1, 0, 5), lasted(1, 0, 9, 5)}, 0, api.ErrLimit)
		expectCheck(t, n, []api.Life{lasted(0, 1, 0, 5), lasted(0, 1, 5, 6)}, 0, api.ErrLimit)
	}
}

// P10.1: how many there may be of each; more events than MaxEvents are too many to hand in their lives here.
func TestFits(t *testing.T) {
	for _, x := range []struct {
		n, events uint64
		want      bool
	}{
		{0, 0, true},
		{1 << 32, 0, true},
		{0, 1 << 31, true},
		{1 << 32, 1 << 31, true},
		{1<<32 + 1, 0, false},
		{0, 1<<31 + 1, false},
		{1 << 32, 1<<31 + 1, false},
		{1<<32 + 1, 1 << 31, false},
		{math.MaxUint64, math.MaxUint64, false},
	} {
		if got := fits(x.n, x.events); got != x.want {
			t.Errorf("fits(%d, %d) = %v", x.n, x.events, got)
		}
	}
}

// P10.1: a life has one event, or two if it ends, whatever else may be wrong with it.
func TestCount(t *testing.T) {
	for _, x := range []struct {
		l    []api.Life
		want uint64
	}{
		{nil, 0},
		{[]api.Life{}, 0},
		{[]api.Life{lasted(0, 1, 3, -1)}, 1},
		{[]api.Life{lasted(0, 1, 3, math.MinInt64)}, 1},
		{[]api.Life{lasted(0, 1, 3, 4)}, 2},
		{[]api.Life{lasted(0, 1, 3, 0)}, 2},
		{[]api.Life{lasted(0, 1, 3, math.MaxInt64)}, 2},
		{[]api.Life{lasted(0, 1, 3, 4), lasted(0, 2, 3, -4), lasted(0, 3, 3, 4)}, 5},
		{someLives(), 10},
	} {
		if got := count(x.l); got != x.want {
			t.Errorf("count(%v) = %d, want %d", x.l, got, x.want)
		}
	}
}

// P10.1: From is 0 to MaxTime, To at most that; To below 0 is no error, whatever it is.
func TestCheckOfTimes(t *testing.T) {
	for _, at := range times {
		from, to := api.OK, api.OK
		if at < 0 || at > api.MaxTime {
			from = api.ErrLimit
		}
		if at > api.MaxTime {
			to = api.ErrLimit
		} else if at == 0 {
			to = api.ErrOrder
		}
		expectCheck(t, 2, []api.Life{lasted(0, 1, at, -1)}, 0, from)
		expectCheck(t, 2, []api.Life{lasted(0, 1, 0, at)}, 0, to)
		if from != api.OK {
			expectCheck(t, 3, []api.Life{lasted(0, 1, 0, -1), lasted(0, 2, at, -1), lasted(1, 2, 0, -1)}, 1, from)
		}
		if to != api.OK {
			expectCheck(t, 3, []api.Life{lasted(0, 1, 0, -1), lasted(0, 2, 0, at), lasted(1, 2, 0, -1)}, 1, to)
		}
	}
}

// P10.1: an edge that isn't Right: U not below V, V not below n.
func TestCheckOfVertices(t *testing.T) {
	for _, x := range []struct {
		n    uint64
		u, v uint32
		want api.Errno
	}{
		{0, 0, 0, api.ErrVertex},
		{0, 0, 1, api.ErrVertex},
		{1, 0, 1, api.ErrVertex},
		{2, 0, 1, api.OK},
		{2, 1, 0, api.ErrVertex},
		{2, 1, 1, api.ErrVertex},
		{9, 7, 8, api.OK},
		{9, 8, 9, api.ErrVertex},
		{9, 9, 10, api.ErrVertex},
		{9, 8, 7, api.ErrVertex},
		{api.MaxN - 1, 0, 1<<32 - 1, api.ErrVertex},
		{api.MaxN, 0, 1<<32 - 1, api.OK},
		{api.MaxN, 1<<32 - 1, 0, api.ErrVertex},
		{api.MaxN, 1<<32 - 1, 1<<32 - 1, api.ErrVertex},
	} {
		expectCheck(t, x.n, []api.Life{lasted(x.u, x.v, 3, 4)}, 0, x.want)
		if x.n > 2 && x.want != api.OK {
			expectCheck(t, x.n, []api.Life{lasted(0, 1, 0, -1), lasted(x.u, x.v, 1, -1), lasted(1, 2, 2, -1)}, 1, x.want)
		}
	}
}

// P10.1: To is above From if it isn't below 0.
func TestCheckOfToAgainstFrom(t *testing.T) {
	for _, from := range times {
		if from < 0 || from > api.MaxTime {
			continue
		}
		for _, to := range times {
			want := api.OK
			if to > api.MaxTime {
				want = api.ErrLimit
			} else if to >= 0 && to <= from {
				want = api.ErrOrder
			}
			expectCheck(t, 2, []api.Life{lasted(0, 1, from, to)}, 0, want)
		}
	}
}

// P10.1: against the one ahead: its edge Less, or the same one that has gone below From.
func TestCheckOfOrder(t *testing.T) {
	for _, x := range []struct {
		a, b api.Life
		want api.Errno
	}{
		{lasted(0, 1, 5, 6), lasted(0, 2, 3, 4), api.OK},
		{lasted(0, 2, 3, 4), lasted(0, 1, 5, 6), api.ErrOrder},
		{lasted(0, 5, 3, 4), lasted(1, 2, 3, 4), api.OK},
		{lasted(1, 2, 3, 4), lasted(0, 5, 3, 4), api.ErrOrder},
		{lasted(1, 2, 3, -1), lasted(1, 3, 3, -1), api.OK},
		{lasted(1, 3, 3, -1), lasted(1, 2, 3, -1), api.ErrOrder},
		{lasted(1, 3, 3, 4), lasted(1, 2, 5, 6), api.ErrOrder},
		{lasted(1, 2, 3, 4), lasted(1, 2, 5, 6), api.OK},
		{lasted(1, 2, 3, 4), lasted(1, 2, 5, -1), api.OK},
		{lasted(1, 2, 3, 4), lasted(1, 2, 4, 6), api.ErrOrder},
		{lasted(1, 2, 3, 6), lasted(1, 2, 4, 5), api.ErrOrder},
		{lasted(1, 2, 3, 6), lasted(1, 2, 4, -1), api.ErrOrder},
		{lasted(1, 2, 3, -1), lasted(1, 2, 4, 6), api.ErrOrder},
		{lasted(1, 2, 3, math.MinInt64), lasted(1, 2, 4, 6), api.ErrOrder},
		{lasted(1, 2, 3, 4), lasted(1, 2, 3, 4), api.ErrOrder},
		{lasted(1, 2, 5, 6), lasted(1, 2, 3, 4), api.ErrOrder},
		{lasted(1, 2, 0, 1), lasted(1, 2, 2, 3), api.OK},
		{lasted(1, 2, 0, 1), lasted(1, 2, 1, 3), api.ErrOrder},
		{lasted(1, 2, 0, 1), lasted(1, 2, 0, 3), api.ErrOrder},
		{lasted(1, 2, 0, api.MaxTime-1), lasted(1, 2, api.MaxTime, -1), api.OK},
		{lasted(1, 2, 0, api.MaxTime), lasted(1, 2, api.MaxTime, -1), api.ErrOrder},
	} {
		at := 0
		if x.want != api.OK {
			at = 1
		}
		expectCheck(t, 9, []api.Life{x.a, x.b}, at, x.want)
		if x.want != api.OK {
			expectCheck(t, 9, []api.Life{x.a, x.b, lasted(7, 7, -1, -1)}, 1, x.want)
		}
	}
	expectCheck(t, 9, []api.Life{lasted(0, 1, 1, 2), lasted(0, 3, 1, 2), lasted(0, 2, 1, 2), lasted(0, 1, 3, 4)}, 2, api.ErrOrder)
	expectCheck(t, 9, []api.Life{lasted(0, 1, 1, 2), lasted(0, 1, 3, 4), lasted(0, 1, 5, 6), lasted(0, 1, 6, 7)}, 3, api.ErrOrder)
}

// P10.1: of one life the error named first, of several the first one that is wrong.
func TestCheckTellsTheFirst(t *testing.T) {
	a := lasted(1, 2, 5, 7)
	for _, x := range []struct {
		l    api.Life
		want api.Errno
	}{
		{lasted(2, 1, -1, 3), api.ErrLimit},
		{lasted(1, 2, -1, -1), api.ErrLimit},
		{lasted(0, 1, api.MaxTime+1, 3), api.ErrLimit},
		{lasted(2, 1, 3, api.MaxTime+1), api.ErrLimit},
		{lasted(0, 1, 3, math.MaxInt64), api.ErrLimit},
		{lasted(1, 2, api.MaxTime+2, api.MaxTime+1), api.ErrLimit},
		{lasted(2, 1, 8, 9), api.ErrVertex},
		{lasted(3, 4, 8, 8), api.ErrVertex},
		{lasted(2, 2, 8, 3), api.ErrVertex},
		{lasted(0, 4, 8, 9), api.ErrVertex},
		{lasted(2, 1, 3, -1), api.ErrVertex},
		{lasted(1, 3, 8, 8), api.ErrOrder},
		{lasted(0, 1, 8, 8), api.ErrOrder},
		{lasted(1, 2, 7, 9), api.ErrOrder},
		{lasted(0, 1, 8, 9), api.ErrOrder},
	} {
		expectCheck(t, 4, []api.Life{a, x.l}, 1, x.want)
		expectCheck(t, 4, []api.Life{a, x.l, lasted(9, 9, -1, 3), a}, 1, x.want)
		expectCheck(t, 4, []api.Life{lasted(0, 3, 0, -1), a, x.l, lasted(0, 1, -1, 0)}, 2, x.want)
	}
}

// expectModel holds Check and Back against the chapter's words, and Of against the lives that Back took.
func expectModel(t *testing.T, n uint64, l []api.Life) api.Errno {
	t.Helper()
	at, e := modelCheck(n, l)
	expectCheck(t, n, l, at, e)
	if e != api.OK {
		return e
	}
	h := modelBack(n, l)
	expectBack(t, n, l, h)
	want := slices.Clone(l)
	for i := range want {
		want[i].To = max(want[i].To, -1)
	}
	expectOf(t, h, want, api.OK)
	return e
}

// P10.1: all lists of up to three lives out of a few.
func TestCheckOfAllShortOnes(t *testing.T) {
	var all []api.Life
	for _, e := range []api.Edge{{U: 0, V: 1}, {U: 0, V: 2}, {U: 1, V: 2}} {
		for from := int64(0); from < 4; from++ {
			for to := int64(-1); to < 5; to++ {
				all = append(all, lasted(e.U, e.V, from, to))
			}
		}
	}
	all = append(all, lasted(0, 1, -1, 2), lasted(0, 1, 2, api.MaxTime+1), lasted(1, 1, 2, 3), lasted(0, 3, 2, 1), lasted(0, 1, 1, math.MinInt64))
	found := map[api.Errno]int{}
	for _, a := range all {
		found[expectModel(t, 3, []api.Life{a})]++
		for _, b := range all {
			found[expectModel(t, 3, []api.Life{a, b})]++
			for _, c := range all {
				found[expectModel(t, 3, []api.Life{a, b, c})]++
			}
		}
	}
	for _, e := range []api.Errno{api.OK, api.ErrLimit, api.ErrVertex, api.ErrOrder} {
		if found[e] == 0 {
			t.Errorf("none of them has %d", e)
		}
	}
}

// P10.1: longer lists, as they are and with one thing or two changed.
func TestCheckAtRandom(t *testing.T) {
	r := rand.New(rand.NewSource(2))
	found := map[api.Errno]int{}
	for i := range 6000 {
		h := someRight(r, someN(r), r.Intn(100))
		l := modelOf(h)
		for range i % 3 {
			damageLives(r, l)
		}
		if i%100 == 99 {
			h.N = r.Uint64() >> r.Intn(64)
		}
		found[expectModel(t, h.N, l)]++
	}
	for _, e := range []api.Errno{api.OK, api.ErrLimit, api.ErrVertex, api.ErrOrder} {
		if found[e] < 50 {
			t.Errorf("only %d of them have %d", found[e], e)
		}
	}
}

// P10.1: who may be is just what is some history's lives: what Back makes is Right, and Back and Of undo each other.
func TestBackUndoesOf(t *testing.T) {
	r := rand.New(rand.NewSource(3))
	for range 3000 {
		h := someRight(r, someN(r), r.Intn(150))
		l, e := Of(h)
		if e != api.OK {
			t.Fatalf("Of(%v) tells %d", h, e)
		}
		expectCheck(t, h.N, l, 0, api.OK)
		expectBack(t, h.N, l, h)
		for i := range l {
			if l[i].To < 0 {
				l[i].To = -1 - r.Int63()
			}
		}
		expectBack(t, h.N, l, h)
	}
}

// P10.1: each To below 0 counts as -1.
func TestBackOfWhatNeverGoes(t *testing.T) {
	for _, to := range []int64{-1, -2, -9, -1 << 32, -api.MaxTime, -api.MaxTime - 1, math.MinInt64 + 1, math.MinInt64} {
		l := someLives()
		l[3].To, l[5].To = to, to
		expectBack(t, 5, l, someHistory())
	}
}

// P10.1: the history has the n that was handed in.
func TestBackKeepsN(t *testing.T) {
	for _, n := range []uint64{5, 6, 1<<32 - 1, api.MaxN} {
		want := someHistory()
		want.N = n
		expectBack(t, n, someLives(), want)
	}
	for _, n := range []uint64{0, 1, 7, api.MaxN} {
		expectBack(t, n, nil, api.History{N: n})
	}
}

// P10.2: at From or above, and below To if that isn't below 0.
func TestThere(t *testing.T) {
	for _, x := range []struct {
		from, to, t int64
		want        bool
	}{
		{1, 3, 0, false},
		{1, 3, 1, true},
		{1, 3, 2, true},
		{1, 3, 3, false},
		{1, 3, 4, false},
		{1, -1, 0, false},
		{1, -1, 1, true},
		{1, -1, math.MaxInt64, true},
		{1, math.MinInt64, 1, true},
		{1, math.MinInt64, 0, false},
		{1, 0, 0, false},
		{1, 0, 1, false},
		{1, 0, 5, false},
		{3, 3, 3, false},
		{5, 3, 4, false},
		{0, api.MaxTime, api.MaxTime - 1, true},
		{0, api.MaxTime, api.MaxTime, false},
		{api.MaxTime, -1, api.MaxTime, true},
		{-5, 3, -5, true},
		{-5, 3, -6, false},
		{-5, 0, -1, true},
		{-5, 0, 0, false},
		{math.MinInt64, -1, math.MinInt64, true},
		{math.MinInt64, math.MaxInt64, math.MaxInt64, false},
	} {
		if got := There(lasted(0, 1, x.from, x.to), x.t); got != x.want {
			t.Errorf("There of %d to %d at %d = %v", x.from, x.to, x.t, got)
		}
	}
}

// P10.2: all times against each other; the edge has no say in it.
func TestThereOfAllTimes(t *testing.T) {
	for _, from := range times {
		for _, to := range times {
			for _, at := range times {
				want := at >= from
				if to >= 0 && at >= to {
					want = false
				}
				for _, e := range []api.Edge{{}, {U: 0, V: 1}, {U: 9, V: 3}} {
					if got := There(api.Life{Edge: e, From: from, To: to}, at); got != want {
						t.Errorf("There of %v from %d to %d at %d = %v", e, from, to, at, got)
					}
				}
			}
		}
	}
}

// P10.2: an edge is there by one of its lives just when the events up to then leave it there, and by one alone.
func TestThereTellsWhatEventsTell(t *testing.T) {
	r := rand.New(rand.NewSource(4))
	for range 500 {
		h := someRight(r, someN(r), r.Intn(60))
		l, _ := Of(h)
		for at := int64(-1); at <= history.Last(h)+1; at++ {
			lives := map[api.Edge]int{}
			for _, x := range l {
				if There(x, at) {
					lives[x.Edge]++
				}
			}
			for _, x := range l {
				want := boolInt(thereBehind(h.Events[:history.Upto(h, at)], x.Edge))
				if lives[x.Edge] != want {
					t.Fatalf("%v at %d has %d lives, want %d: %v", x.Edge, at, lives[x.Edge], want, h)
				}
			}
		}
	}
}

// boolInt tells 1 of what is so.
func boolInt(is bool) int {
	if is {
		return 1
	}
	return 0
}

// P10.3: a life is two events: each event begins one life or ends one, and each life begins by one and ends by one, or by none.
func TestALifeIsTwoEvents(t *testing.T) {
	r := rand.New(rand.NewSource(5))
	for range 1000 {
		h := someRight(r, someN(r), r.Intn(100))
		l, _ := Of(h)
		left := map[api.Event]int{}
		for _, e := range h.Events {
			left[e]++
		}
		for _, x := range l {
			left[turned(x.From, x.Edge.U, x.Edge.V, true)]--
			if x.To >= 0 {
				left[turned(x.To, x.Edge.U, x.Edge.V, false)]--
			}
		}
		for e, n := range left {
			if n != 0 {
				t.Fatalf("%v comes %d times more often in the history than in the lives: %v", e, n, h)
			}
		}
	}
}

// P10.1: what is handed in stays as it is, and what is behind it isn't looked at.
func TestHandedInStays(t *testing.T) {
	events := append(someHistory().Events, turned(-1, 3, 3, false), turned(0, 0, 1, true))
	h := api.History{N: 5, Events: events[:len(events)-2]}
	wasEvents := slices.Clone(events)
	expectOf(t, h, someLives(), api.OK)
	h.Events = events
	expectOf(t, h, nil, api.ErrLimit)
	if !slices.Equal(events, wasEvents) {
		t.Errorf("the events that were handed in are now %v", events)
	}
	lives := append(someLives(), lasted(0, 1, -1, -1), lasted(0, 1, 0, 3))
	lives[3].To = -8
	wasLives := slices.Clone(lives)
	expectCheck(t, 5, lives[:6], 0, api.OK)
	expectBack(t, 5, lives[:6], someHistory())
	expectCheck(t, 5, lives, 6, api.ErrLimit)
	if !slices.Equal(lives, wasLives) {
		t.Errorf("the lives that were handed in are now %v", lives)
	}
}

// P10.1: each answer is new memory: what is done to one, or behind it, leaves the others as they are.
func TestAnswersAreNewMemory(t *testing.T) {
	h := someHistory()
	a, _ := Of(h)
	b, _ := Of(h)
	for i := range a {
		a[i] = lasted(8, 9, 77, 78)
	}
	_ = append(a, lasted(8, 9, 77, 78))
	if !slices.Equal(b, someLives()) {
		t.Errorf("two answers of Of share memory: %v", b)
	}
	c, _ := Back(5, b)
	d, _ := Back(5, b)
	for i := range c.Events {
		c.Events[i] = turned(77, 8, 9, true)
	}
	_ = append(c.Events, turned(77, 8, 9, true))
	if !history.Same(d, h) || !slices.Equal(b, someLives()) {
		t.Errorf("two answers of Back share memory: %v", d)
	}
}

// P10.1: the same asked again tells the same.
func TestSameAgain(t *testing.T) {
	r := rand.New(rand.NewSource(6))
	h := someRight(r, 300, 3000)
	first, _ := Of(h)
	for range 20 {
		expectOf(t, h, first, api.OK)
		expectBack(t, h.N, first, h)
	}
}
