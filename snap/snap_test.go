package snap

import (
	"math"
	"math/rand"
	"slices"
	"testing"

	"archipelago/api"
	"archipelago/history"
)

// last is the greatest vertex that may be.
const last = uint32(api.MaxN - 1)

// times are moments at and around the ends of what a time may be.
var times = []int64{math.MinInt64, -1 << 32, -1, 0, 1, 2, 3, 4, 5, 8, 9, 10, 11, 12, 13, 1 << 32, api.MaxTime - 1, api.MaxTime, api.MaxTime + 1, math.MaxInt64}

// tie tells the edge of u and v, rightly named or not.
func tie(u, v uint32) api.Edge {
	return api.Edge{U: u, V: v}
}

// came tells the event by which the edge of u and v comes.
func came(t int64, u, v uint32) api.Event {
	return api.Event{T: t, Edge: tie(u, v), Add: true}
}

// went tells the event by which it goes.
func went(t int64, u, v uint32) api.Event {
	return api.Event{T: t, Edge: tie(u, v)}
}

// some is a Right history of five vertices: edges that come in another order than their own, one that comes again, one that never goes.
func some() api.History {
	return api.History{N: 5, Events: []api.Event{
		came(1, 1, 2), came(1, 3, 4),
		came(3, 0, 1), went(3, 1, 2), came(3, 2, 3),
		went(5, 0, 1),
		came(9, 0, 1), came(9, 1, 2), went(9, 2, 3),
		came(10, 0, 4),
		went(12, 0, 1), went(12, 0, 4), went(12, 1, 2),
	}}
}

// compareEdges holds a against b: by U, then by V.
func compareEdges(a, b api.Edge) int {
	return slices.Compare([]uint32{a.U, a.V}, []uint32{b.U, b.V})
}

// model is what is there behind events: each edge of which the last event says that it comes, by U, then by V.
func model(events []api.Event) []api.Edge {
	var l []api.Edge
	for i, e := range events {
		again := slices.ContainsFunc(events[i+1:], func(x api.Event) bool { return x.Edge == e.Edge })
		if e.Add && !again {
			l = append(l, e.Edge)
		}
	}
	slices.SortFunc(l, compareEdges)
	return l
}

// modelAt is what is there at a moment: what the events of that time and of earlier ones leave.
func modelAt(h api.History, at int64) []api.Edge {
	return model(slices.DeleteFunc(slices.Clone(h.Events), func(e api.Event) bool { return e.T > at }))
}

// modelTurn is Turn by the words of P11.1.
func modelTurn(l []api.Edge, e api.Event) ([]api.Edge, bool) {
	for i := range l {
		if i > 0 && compareEdges(l[i-1], l[i]) >= 0 {
			return nil, false
		}
	}
	if slices.Contains(l, e.Edge) == e.Add {
		return nil, false
	}
	var want []api.Edge
	for _, x := range l {
		if x != e.Edge {
			want = append(want, x)
		}
	}
	if e.Add {
		want = append(want, e.Edge)
	}
	slices.SortFunc(want, compareEdges)
	return want, true
}

// expectAfter holds After of h and k against what it should tell.
func expectAfter(t *testing.T, h api.History, k int, want []api.Edge, e api.Errno) {
	t.Helper()
	if l, err := After(h, k); !slices.Equal(l, want) || err != e {
		t.Errorf("After(%v, %d) = %v, %d; want %v, %d", h, k, l, err, want, e)
	}
}

// expectAt holds At of h and a moment against what it should tell.
func expectAt(t *testing.T, h api.History, at int64, want []api.Edge, e api.Errno) {
	t.Helper()
	if l, err := At(h, at); !slices.Equal(l, want) || err != e {
		t.Errorf("At(%v, %d) = %v, %d; want %v, %d", h, at, l, err, want, e)
	}
}

// expectTurn holds Turn against what it should tell, and l against what it was.
func expectTurn(t *testing.T, l []api.Edge, e api.Event, want []api.Edge, ok bool) {
	t.Helper()
	was := slices.Clone(l)
	got, is := Turn(l, e)
	if !slices.Equal(got, want) || is != ok {
		t.Errorf("Turn(%v, %v) = %v, %v; want %v, %v", l, e, got, is, want, ok)
	}
	if !slices.Equal(l, was) {
		t.Errorf("Turn(%v, %v) made %v of what it was given", was, e, l)
	}
}

// someRight tells a Right history of n vertices and about so many events, several of one edge and of one time among them.
func someRight(r *rand.Rand, n uint64, count int) api.History {
	h := api.History{N: n}
	there := map[api.Edge]int{}
	var at int64
	for len(h.Events) < count {
		var l []api.Edge
		for range 1 + r.Intn(4) {
			a, b := uint32(r.Uint64()%n), uint32(r.Uint64()%n)
			if len(h.Events) > 0 && r.Intn(2) == 0 {
				old := h.Events[r.Intn(len(h.Events))].Edge
				a, b = old.U, old.V
			}
			if a != b {
				l = append(l, tie(min(a, b), max(a, b)))
			}
		}
		slices.SortFunc(l, compareEdges)
		for _, e := range slices.Compact(l) {
			there[e]++
			h.Events = append(h.Events, api.Event{T: at, Edge: e, Add: there[e]%2 == 1})
		}
		at += 1 + int64(r.Intn(3))
	}
	return h
}

// someN tells how many vertices there are: few or many.
func someN(r *rand.Rand) uint64 {
	if r.Intn(3) == 0 {
		return api.MaxN
	}
	return uint64(2 + r.Intn(6))
}

// P11.1: the edges behind the first k events, rising; k below 0 as 0, above all as all.
func TestAfter(t *testing.T) {
	all := []api.Edge{tie(3, 4)}
	for _, x := range []struct {
		k    int
		want []api.Edge
	}{
		{math.MinInt, nil},
		{-14, nil},
		{-1, nil},
		{0, nil},
		{1, []api.Edge{tie(1, 2)}},
		{2, []api.Edge{tie(1, 2), tie(3, 4)}},
		{3, []api.Edge{tie(0, 1), tie(1, 2), tie(3, 4)}},
		{4, []api.Edge{tie(0, 1), tie(3, 4)}},
		{5, []api.Edge{tie(0, 1), tie(2, 3), tie(3, 4)}},
		{6, []api.Edge{tie(2, 3), tie(3, 4)}},
		{7, []api.Edge{tie(0, 1), tie(2, 3), tie(3, 4)}},
		{8, []api.Edge{tie(0, 1), tie(1, 2), tie(2, 3), tie(3, 4)}},
		{9, []api.Edge{tie(0, 1), tie(1, 2), tie(3, 4)}},
		{10, []api.Edge{tie(0, 1), tie(0, 4), tie(1, 2), tie(3, 4)}},
		{11, []api.Edge{tie(0, 4), tie(1, 2), tie(3, 4)}},
		{12, []api.Edge{tie(1, 2), tie(3, 4)}},
		{13, all},
		{14, all},
		{1 << 31, all},
		{math.MaxInt, all},
	} {
		expectAfter(t, some(), x.k, x.want, api.OK)
	}
}

// P11.1: what is there at t: behind all events of that time and of earlier ones.
func TestAt(t *testing.T) {
	all := []api.Edge{tie(3, 4)}
	for _, x := range []struct {
		at   int64
		want []api.Edge
	}{
		{math.MinInt64, nil},
		{-1, nil},
		{0, nil},
		{1, []api.Edge{tie(1, 2), tie(3, 4)}},
		{2, []api.Edge{tie(1, 2), tie(3, 4)}},
		{3, []api.Edge{tie(0, 1), tie(2, 3), tie(3, 4)}},
		{4, []api.Edge{tie(0, 1), tie(2, 3), tie(3, 4)}},
		{5, []api.Edge{tie(2, 3), tie(3, 4)}},
		{8, []api.Edge{tie(2, 3), tie(3, 4)}},
		{9, []api.Edge{tie(0, 1), tie(1, 2), tie(3, 4)}},
		{10, []api.Edge{tie(0, 1), tie(0, 4), tie(1, 2), tie(3, 4)}},
		{11, []api.Edge{tie(0, 1), tie(0, 4), tie(1, 2), tie(3, 4)}},
		{12, all},
		{13, all},
		{api.MaxTime, all},
		{api.MaxTime + 1, all},
		{math.MaxInt64, all},
	} {
		expectAt(t, some(), x.at, x.want, api.OK)
	}
}

// P11.1: of no events nothing is there, at any moment.
func TestOfNoEvents(t *testing.T) {
	for _, h := range []api.History{{}, {Events: []api.Event{}}, {N: 1}, {N: api.MaxN}} {
		for _, at := range times {
			expectAt(t, h, at, nil, api.OK)
			expectAfter(t, h, int(at), nil, api.OK)
		}
	}
}

// P11.1: the ends of what a history may be.
func TestAtTheEnds(t *testing.T) {
	h := api.History{N: api.MaxN, Events: []api.Event{came(0, last-1, last), came(1, 1<<31, last), came(2, 0, last), came(3, 1, 1<<31), went(api.MaxTime, 0, last)}}
	expectAt(t, h, 0, []api.Edge{tie(last-1, last)}, api.OK)
	expectAt(t, h, 1, []api.Edge{tie(1<<31, last), tie(last-1, last)}, api.OK)
	expectAt(t, h, api.MaxTime-1, []api.Edge{tie(0, last), tie(1, 1<<31), tie(1<<31, last), tie(last-1, last)}, api.OK)
	expectAt(t, h, api.MaxTime, []api.Edge{tie(1, 1<<31), tie(1<<31, last), tie(last-1, last)}, api.OK)
}

// P11.1: history.Check's error, wherever h isn't Right, be it behind the moment that is asked for, and nothing beside it.
func TestWrongOnes(t *testing.T) {
	for i, x := range []struct {
		change func(h *api.History)
		want   api.Errno
	}{
		{func(h *api.History) { h.N = api.MaxN + 1 }, api.ErrLimit},
		{func(h *api.History) { h.N = math.MaxUint64 }, api.ErrLimit},
		{func(h *api.History) { h.Events[0].T = -1 }, api.ErrLimit},
		{func(h *api.History) { h.Events[12].T = api.MaxTime + 1 }, api.ErrLimit},
		{func(h *api.History) { h.N = 4 }, api.ErrVertex},
		{func(h *api.History) { h.N = 0 }, api.ErrVertex},
		{func(h *api.History) { h.Events[12].Edge = tie(2, 1) }, api.ErrVertex},
		{func(h *api.History) { h.Events[12].Edge = tie(2, 2) }, api.ErrVertex},
		{func(h *api.History) { h.Events[12].T = 11 }, api.ErrOrder},
		{func(h *api.History) { h.Events[0], h.Events[1] = h.Events[1], h.Events[0] }, api.ErrOrder},
		{func(h *api.History) { h.Events[12] = h.Events[11] }, api.ErrOrder},
		{func(h *api.History) { h.Events[0].Add = false }, api.ErrEdge},
		{func(h *api.History) { h.Events[12].Add = true }, api.ErrEdge},
		{func(h *api.History) { h.Events[12].Edge = tie(1, 3) }, api.ErrEdge},
		{func(h *api.History) { h.Events[4].T, h.Events[7].Add = -1, false }, api.ErrLimit},
		{func(h *api.History) { h.Events[4].Add, h.Events[7].T = false, -1 }, api.ErrEdge},
	} {
		h := some()
		x.change(&h)
		for k := -1; k <= len(h.Events)+1; k++ {
			if l, e := After(h, k); len(l) != 0 || e != x.want {
				t.Errorf("change %d: After %d tells %v, %d; want %d", i, k, l, e, x.want)
			}
		}
		for _, at := range times {
			if l, e := At(h, at); len(l) != 0 || e != x.want {
				t.Errorf("change %d: At %d tells %v, %d; want %d", i, at, l, e, x.want)
			}
		}
	}
	expectAfter(t, api.History{N: api.MaxN + 1}, 0, nil, api.ErrLimit)
	expectAt(t, api.History{N: api.MaxN + 1}, 0, nil, api.ErrLimit)
}

// P11.1: After and At of all histories of up to four events out of a few, Right or not.
func TestAllShortOnes(t *testing.T) {
	var all []api.Event
	for at := int64(0); at < 4; at++ {
		for _, e := range []api.Edge{tie(0, 1), tie(0, 2)} {
			all = append(all, api.Event{T: at, Edge: e}, api.Event{T: at, Edge: e, Add: true})
		}
	}
	all = append(all, came(-1, 0, 1), went(2, 1, 1), came(2, 0, 3))
	found := map[api.Errno]int{}
	var try func(h api.History)
	try = func(h api.History) {
		_, e := history.Check(h)
		found[e]++
		for i := int64(-1); i < 5; i++ {
			if e != api.OK {
				expectAfter(t, h, int(i), nil, e)
				expectAt(t, h, i, nil, e)
				continue
			}
			expectAfter(t, h, int(i), model(h.Events[:min(max(i, 0), int64(len(h.Events)))]), api.OK)
			expectAt(t, h, i, modelAt(h, i), api.OK)
		}
		if len(h.Events) == 4 || e != api.OK {
			return
		}
		for _, x := range all {
			try(api.History{N: 3, Events: append(slices.Clone(h.Events), x)})
		}
	}
	try(api.History{N: 3})
	for _, e := range []api.Errno{api.OK, api.ErrLimit, api.ErrVertex, api.ErrOrder, api.ErrEdge} {
		if found[e] == 0 {
			t.Errorf("none of them has %d", e)
		}
	}
}

// P11.1: After and At of longer histories, at each place and at each moment.
func TestAtRandom(t *testing.T) {
	r := rand.New(rand.NewSource(1))
	for range 200 {
		h := someRight(r, someN(r), r.Intn(60))
		for k := range len(h.Events) + 1 {
			expectAfter(t, h, k, model(h.Events[:k]), api.OK)
		}
		for at := int64(-1); at <= history.Last(h)+1; at++ {
			expectAt(t, h, at, modelAt(h, at), api.OK)
		}
	}
}

// P11.2: what is there now: each event turns what was there ahead of it into what is there behind it, and back; each edge but its own stays.
func TestTurnByTurn(t *testing.T) {
	r := rand.New(rand.NewSource(2))
	for range 100 {
		h := someRight(r, someN(r), r.Intn(150))
		var now []api.Edge
		for i, e := range h.Events {
			next, err := After(h, i+1)
			if err != api.OK {
				t.Fatalf("After(%v, %d) tells %d", h, i+1, err)
			}
			expectTurn(t, now, e, next, true)
			expectTurn(t, next, e, nil, false)
			back := e
			back.Add = !e.Add
			expectTurn(t, next, back, now, true)
			if Has(now, e.Edge) == e.Add || Has(next, e.Edge) != e.Add {
				t.Errorf("event %d of %v: %v ahead of it, %v behind it", i, h, now, next)
			}
			now = next
		}
		expectAt(t, h, history.Last(h), now, api.OK)
	}
}

// P11.2: an edge is there just if the last that was told of it is that it came.
func TestThereIsWhatCameLast(t *testing.T) {
	r := rand.New(rand.NewSource(3))
	for range 100 {
		h := someRight(r, someN(r), r.Intn(100))
		for at := int64(-1); at <= history.Last(h)+1; at++ {
			l, _ := At(h, at)
			told := map[api.Edge]int{}
			for _, e := range h.Events {
				if e.T <= at {
					told[e.Edge]++
				}
			}
			for _, e := range h.Events {
				if Has(l, e.Edge) != (told[e.Edge]%2 == 1) {
					t.Fatalf("%v at %d of %v: %v", e.Edge, at, h, l)
				}
			}
		}
	}
}

// P11.1: with the edge or without it, at the front, in the middle and at the end; false if it is there, or isn't.
func TestTurn(t *testing.T) {
	a, b, c := tie(0, 1), tie(0, 5), tie(2, 5)
	l := []api.Edge{a, b, c}
	for _, x := range []struct {
		l    []api.Edge
		e    api.Event
		want []api.Edge
		ok   bool
	}{
		{nil, came(0, 0, 1), []api.Edge{a}, true},
		{[]api.Edge{}, came(0, 0, 1), []api.Edge{a}, true},
		{nil, went(0, 0, 1), nil, false},
		{nil, came(0, 0, 0), []api.Edge{{}}, true},
		{nil, went(0, 0, 0), nil, false},
		{[]api.Edge{a}, went(0, 0, 1), nil, true},
		{[]api.Edge{a}, came(0, 0, 1), nil, false},
		{l, came(0, 0, 0), []api.Edge{tie(0, 0), a, b, c}, true},
		{l, came(0, 0, 2), []api.Edge{a, tie(0, 2), b, c}, true},
		{l, came(0, 1, 0), []api.Edge{a, b, tie(1, 0), c}, true},
		{l, came(0, 2, 4), []api.Edge{a, b, tie(2, 4), c}, true},
		{l, came(0, 2, 6), []api.Edge{a, b, c, tie(2, 6)}, true},
		{l, came(0, last, last), []api.Edge{a, b, c, tie(last, last)}, true},
		{l, came(0, 5, 2), []api.Edge{a, b, c, tie(5, 2)}, true},
		{l, came(0, 0, 1), nil, false},
		{l, came(0, 0, 5), nil, false},
		{l, came(0, 2, 5), nil, false},
		{l, went(0, 0, 1), []api.Edge{b, c}, true},
		{l, went(0, 0, 5), []api.Edge{a, c}, true},
		{l, went(0, 2, 5), []api.Edge{a, b}, true},
		{l, went(0, 0, 0), nil, false},
		{l, went(0, 0, 4), nil, false},
		{l, went(0, 1, 5), nil, false},
		{l, went(0, 5, 2), nil, false},
		{l, went(0, 2, 6), nil, false},
		{l, went(0, last, last), nil, false},
	} {
		for _, at := range times {
			x.e.T = at
			expectTurn(t, x.l, x.e, x.want, x.ok)
		}
	}
}

// P11.1: false of an l that isn't Rising, wherever it isn't, be the edge there or not.
func TestTurnOfWhatDoesNotRise(t *testing.T) {
	a, b, c, d := tie(0, 1), tie(0, 5), tie(1, 2), tie(2, 0)
	for _, l := range [][]api.Edge{{b, a}, {a, a}, {a, c, b, d}, {b, a, c, d}, {a, b, d, c}, {a, a, b, c}, {a, b, c, c}, {a, b, c, a}, {d, c, b, a}} {
		for _, e := range []api.Edge{{}, a, b, c, d, tie(0, 3), tie(9, 9)} {
			expectTurn(t, l, api.Event{Edge: e, Add: true}, nil, false)
			expectTurn(t, l, api.Event{Edge: e}, nil, false)
		}
	}
}

// P11.1: Turn of all lists of up to four edges out of a few, in order or not, rightly named or not.
func TestTurnOfAllShortOnes(t *testing.T) {
	all := []api.Edge{tie(0, 0), tie(0, 1), tie(0, last), tie(1, 0), tie(1, 2), tie(last, 0)}
	var try func(l []api.Edge)
	try = func(l []api.Edge) {
		for _, e := range append([]api.Edge{tie(0, 2), tie(last, last)}, all...) {
			for _, add := range []bool{false, true} {
				x := api.Event{T: int64(len(l)) - 2, Edge: e, Add: add}
				want, ok := modelTurn(l, x)
				expectTurn(t, l, x, want, ok)
			}
		}
		if len(l) == 4 {
			return
		}
		for _, e := range all {
			try(append(slices.Clone(l), e))
		}
	}
	try(nil)
}

// P11.1: how many of l have v: at either end, at both of them once, in whatever order and however often.
func TestDegree(t *testing.T) {
	l := []api.Edge{tie(0, 1), tie(0, 5), tie(2, 5), tie(5, last)}
	for _, x := range []struct {
		l    []api.Edge
		v    uint32
		want int
	}{
		{nil, 0, 0},
		{[]api.Edge{}, 7, 0},
		{l, 0, 2},
		{l, 1, 1},
		{l, 2, 1},
		{l, 3, 0},
		{l, 5, 3},
		{l, 6, 0},
		{l, last, 1},
		{l, last - 1, 0},
		{l[:1], 5, 0},
		{[]api.Edge{{}}, 0, 1},
		{[]api.Edge{tie(4, 4), tie(3, 4), tie(4, 3), tie(3, 4)}, 4, 4},
		{[]api.Edge{tie(4, 4), tie(3, 4), tie(4, 3), tie(3, 4)}, 3, 3},
		{[]api.Edge{tie(2, 5), tie(0, 5), tie(0, 1)}, 0, 2},
	} {
		if got := Degree(x.l, x.v); got != x.want {
			t.Errorf("Degree(%v, %d) = %d, want %d", x.l, x.v, got, x.want)
		}
	}
}

// P11.1: whether e is one of l, in whatever order; an edge named the other way round is another one.
func TestHas(t *testing.T) {
	a, b, c := tie(0, 1), tie(0, 5), tie(2, 5)
	for _, l := range [][]api.Edge{{a, b, c}, {c, b, a}, {b, c, a}, {b, a, c}, {a, b, c, c, a}, {c, a, c, b}} {
		for _, e := range []api.Edge{a, b, c} {
			if !Has(l, e) {
				t.Errorf("%v hasn't %v", l, e)
			}
		}
		for _, e := range []api.Edge{{}, tie(1, 0), tie(5, 0), tie(5, 2), tie(0, 2), tie(2, 1), tie(1, 5), tie(last, last)} {
			if Has(l, e) {
				t.Errorf("%v has %v", l, e)
			}
		}
	}
	if Has(nil, api.Edge{}) || Has([]api.Edge{}, api.Edge{}) || Has([]api.Edge{a, c, b}[:2], b) {
		t.Error("Has of what is in no list")
	}
	if !Has([]api.Edge{{}}, api.Edge{}) || !Has([]api.Edge{tie(last, 0)}, tie(last, 0)) {
		t.Error("Has of edges that aren't Right")
	}
}

// P11.1: what is handed in stays as it is, the spare room behind it too, which isn't looked at.
func TestHandedInStays(t *testing.T) {
	events := append(some().Events, went(-1, 3, 3), came(0, 0, 1))
	wasEvents := slices.Clone(events)
	h := api.History{N: 5, Events: events[:13]}
	for k := range 16 {
		expectAfter(t, h, k, model(events[:min(k, 13)]), api.OK)
		expectAt(t, h, int64(k), modelAt(h, int64(k)), api.OK)
	}
	h.Events = events
	expectAfter(t, h, 13, nil, api.ErrLimit)
	if !slices.Equal(events, wasEvents) {
		t.Errorf("the events that were handed in are now %v", events)
	}
	l := []api.Edge{tie(0, 1), tie(0, 5), tie(2, 5), tie(0, 3), tie(0, 2)}
	was := slices.Clone(l)
	for _, e := range []api.Edge{tie(0, 0), tie(0, 1), tie(0, 2), tie(0, 3), tie(0, 5), tie(2, 5), tie(3, 4)} {
		for _, add := range []bool{false, true} {
			x := api.Event{Edge: e, Add: add}
			want, ok := modelTurn(l[:3], x)
			expectTurn(t, l[:3], x, want, ok)
		}
		if Has(l[:3], e) != slices.Contains(was[:3], e) || Degree(l[:3], 0) != 2 {
			t.Errorf("Has %v, or Degree, of %v looks behind it", e, l[:3])
		}
		if !slices.Equal(l, was) {
			t.Fatalf("the edges that were handed in are now %v", l)
		}
	}
}

// P11.1: each answer is new memory: what is done to one, or behind it, leaves all else as it is.
func TestAnswersAreNewMemory(t *testing.T) {
	spoil := func(l []api.Edge) {
		for i := range l {
			l[i] = tie(8, 9)
		}
		_ = append(l, tie(8, 9))
	}
	h := some()
	a, _ := After(h, 10)
	b, _ := After(h, 10)
	c, _ := At(h, 11)
	spoil(a)
	want := []api.Edge{tie(0, 1), tie(0, 4), tie(1, 2), tie(3, 4)}
	if !slices.Equal(b, want) || !slices.Equal(c, want) || !history.Same(h, some()) {
		t.Errorf("After's answer shares memory: %v, %v", b, c)
	}
	for _, e := range []api.Event{went(0, 0, 1), went(0, 0, 4), went(0, 3, 4), came(0, 0, 0), came(0, 0, 5), came(0, 4, 5)} {
		l := append(slices.Clone(want), tie(7, 7))[:4]
		one, _ := Turn(l, e)
		two, _ := Turn(l, e)
		spoil(one)
		if model, _ := modelTurn(want, e); !slices.Equal(two, model) || !slices.Equal(l[:5], append(slices.Clone(want), tie(7, 7))) {
			t.Errorf("Turn's answer of %v shares memory: %v, %v", e, two, l[:5])
		}
	}
}

// P11.1: the same asked again tells the same, of many edges too.
func TestSameAgain(t *testing.T) {
	r := rand.New(rand.NewSource(4))
	h := someRight(r, 300, 3000)
	want := model(h.Events)
	for range 20 {
		expectAfter(t, h, len(h.Events), want, api.OK)
		expectAt(t, h, math.MaxInt64, want, api.OK)
	}
}
