package edge

import (
	"math"
	"math/big"
	"math/rand"
	"slices"
	"testing"

	"archipelago/api"
)

// ends are vertices at and around the edges of their kind.
var ends = []uint32{0, 1, 2, 3, 1<<16 - 1, 1 << 16, 1<<31 - 1, 1 << 31, 1<<31 + 1, 1<<32 - 2, 1<<32 - 1}

// times are moments at and around the edges of theirs, below 0 and above api.MaxTime too.
var times = []int64{math.MinInt64, math.MinInt64 + 1, -1 << 32, -2, -1, 0, 1, 2, 1<<32 - 1, 1 << 32, api.MaxTime - 1, api.MaxTime, api.MaxTime + 1, math.MaxInt64 - 1, math.MaxInt64}

// allEdges tells each pair of ends, rightly named or not.
func allEdges() []api.Edge {
	var l []api.Edge
	for _, u := range ends {
		for _, v := range ends {
			l = append(l, api.Edge{U: u, V: v})
		}
	}
	return l
}

// rank tells a number that rises just as edges do: U 2^32 + V, of any size.
func rank(e api.Edge) *big.Int {
	r := new(big.Int).SetUint64(uint64(e.U))
	return r.Lsh(r, 32).Add(r, new(big.Int).SetUint64(uint64(e.V)))
}

// rankOf tells a number that rises just as events do: T 2^64 + the rank of their edge.
func rankOf(e api.Event) *big.Int {
	r := big.NewInt(e.T)
	return r.Lsh(r, 64).Add(r, rank(e.Edge))
}

// someEdge tells an edge of few or of many vertices, rightly named or not.
func someEdge(r *rand.Rand) api.Edge {
	if r.Intn(2) == 0 {
		return api.Edge{U: uint32(r.Intn(4)), V: uint32(r.Intn(4))}
	}
	return api.Edge{U: r.Uint32(), V: r.Uint32()}
}

// P8.1: U the lesser, V the greater.
func TestOfNamesTheLesserFirst(t *testing.T) {
	for _, x := range []struct {
		a, b uint32
		want api.Edge
	}{
		{3, 1, api.Edge{U: 1, V: 3}},
		{1, 3, api.Edge{U: 1, V: 3}},
		{0, 1, api.Edge{U: 0, V: 1}},
		{1, 0, api.Edge{U: 0, V: 1}},
		{0, 1<<32 - 1, api.Edge{U: 0, V: 1<<32 - 1}},
		{1<<32 - 1, 0, api.Edge{U: 0, V: 1<<32 - 1}},
		{1<<32 - 1, 1<<32 - 2, api.Edge{U: 1<<32 - 2, V: 1<<32 - 1}},
		{1 << 31, 1<<31 - 1, api.Edge{U: 1<<31 - 1, V: 1 << 31}},
	} {
		if e, ok := Of(x.a, x.b); e != x.want || !ok {
			t.Errorf("Of(%d, %d) = %v, %v; want %v, true", x.a, x.b, e, ok, x.want)
		}
	}
}

// P8.1: false of like ones, and nothing beside it.
func TestOfLikeOnes(t *testing.T) {
	for _, a := range ends {
		if e, ok := Of(a, a); e != (api.Edge{}) || ok {
			t.Errorf("Of(%d, %d) = %v, %v; want nothing, false", a, a, e, ok)
		}
	}
}

// P8.2: whichever end is named first, it is the one edge; and other ends have another.
func TestOneName(t *testing.T) {
	from := map[api.Edge][2]uint32{}
	for i, a := range ends {
		for _, b := range ends[:i] {
			e, ok := Of(a, b)
			back, okBack := Of(b, a)
			if !ok || !okBack || e != back {
				t.Errorf("Of(%d, %d) = %v, %v; the other way round %v, %v", a, b, e, ok, back, okBack)
			}
			if p, twice := from[e]; twice {
				t.Errorf("Of(%d, %d) = %v, as of %v", a, b, e, p)
			}
			from[e] = [2]uint32{a, b}
		}
	}
}

// P8.2: of the two ways to write an edge just the one that Of tells is Right, and nothing that Of doesn't tell is.
func TestRightIsWhatOfTells(t *testing.T) {
	check := func(e api.Edge) {
		name, ok := Of(e.U, e.V)
		if got, want := Right(e, api.MaxN), ok && e == name; got != want {
			t.Errorf("Right(%v, MaxN) = %v; Of tells %v, %v", e, got, name, ok)
		}
	}
	for _, e := range allEdges() {
		check(e)
	}
	r := rand.New(rand.NewSource(1))
	for range 2000 {
		check(someEdge(r))
	}
}

// P8.1: U below V, V below n.
func TestRight(t *testing.T) {
	for _, x := range []struct {
		u, v uint32
		n    uint64
		want bool
	}{
		{0, 1, 2, true},
		{0, 1, 1, false},
		{0, 1, 0, false},
		{0, 0, 0, false},
		{0, 0, 9, false},
		{1, 0, 9, false},
		{1, 1, 9, false},
		{9, 8, 9, false},
		{7, 8, 9, true},
		{8, 9, 9, false},
		{9, 10, 9, false},
		{0, 1<<32 - 1, 1<<32 - 1, false},
		{0, 1<<32 - 1, api.MaxN, true},
		{1<<32 - 2, 1<<32 - 1, api.MaxN, true},
		{1<<32 - 1, 1<<32 - 2, api.MaxN, false},
		{1<<32 - 1, 1<<32 - 1, api.MaxN, false},
		{0, 1, api.MaxN + 1, true},
		{0, 1<<32 - 1, api.MaxN + 1, true},
		{5, 6, 1 << 63, true},
		{0, 1, math.MaxUint64, true},
		{1, 0, math.MaxUint64, false},
		{3, 3, math.MaxUint64, false},
	} {
		if got := Right(api.Edge{U: x.u, V: x.v}, x.n); got != x.want {
			t.Errorf("Right({%d, %d}, %d) = %v", x.u, x.v, x.n, got)
		}
	}
}

// P8.1: an edge is Right at as many vertices as make V one of them, and not at one fewer.
func TestRightAtItsLastVertex(t *testing.T) {
	for _, e := range allEdges() {
		n := uint64(e.V) + 1
		if Right(e, n) != (e.U < e.V) || Right(e, n-1) {
			t.Errorf("%v: Right at %d is %v, at %d %v", e, n, Right(e, n), n-1, Right(e, n-1))
		}
	}
}

// P8.1: by U, then by V; of edges that aren't Right too.
func TestLess(t *testing.T) {
	for _, x := range []struct {
		a, b api.Edge
		want bool
	}{
		{api.Edge{U: 0, V: 5}, api.Edge{U: 1, V: 2}, true},
		{api.Edge{U: 1, V: 2}, api.Edge{U: 0, V: 5}, false},
		{api.Edge{U: 1, V: 2}, api.Edge{U: 1, V: 3}, true},
		{api.Edge{U: 1, V: 3}, api.Edge{U: 1, V: 2}, false},
		{api.Edge{U: 1, V: 2}, api.Edge{U: 1, V: 2}, false},
		{api.Edge{U: 2, V: 0}, api.Edge{U: 1, V: 9}, false},
		{api.Edge{U: 0, V: 1<<32 - 1}, api.Edge{U: 1, V: 0}, true},
		{api.Edge{U: 0, V: 1<<31 - 1}, api.Edge{U: 0, V: 1 << 31}, true},
	} {
		if got := Less(x.a, x.b); got != x.want {
			t.Errorf("Less(%v, %v) = %v", x.a, x.b, got)
		}
	}
	l := allEdges()
	for _, a := range l {
		for _, b := range l {
			if got, want := Less(a, b), rank(a).Cmp(rank(b)) < 0; got != want {
				t.Errorf("Less(%v, %v) = %v", a, b, got)
			}
		}
	}
}

// P8.1: each Less than the next one: nothing and one edge are so, like ones side by side are not.
func TestRising(t *testing.T) {
	a, b, c, d := api.Edge{U: 0, V: 1}, api.Edge{U: 0, V: 5}, api.Edge{U: 1, V: 2}, api.Edge{U: 2, V: 0}
	for i, x := range []struct {
		l    []api.Edge
		want bool
	}{
		{nil, true},
		{[]api.Edge{}, true},
		{[]api.Edge{a}, true},
		{[]api.Edge{d}, true},
		{[]api.Edge{a, b}, true},
		{[]api.Edge{b, a}, false},
		{[]api.Edge{a, a}, false},
		{[]api.Edge{a, b, c, d}, true},
		{[]api.Edge{b, a, c, d}, false},
		{[]api.Edge{a, c, b, d}, false},
		{[]api.Edge{a, b, d, c}, false},
		{[]api.Edge{a, a, b, c}, false},
		{[]api.Edge{a, b, b, c}, false},
		{[]api.Edge{a, b, c, c}, false},
		{[]api.Edge{a, b, c, a}, false},
		{[]api.Edge{a, b, c, d}[:0], true},
	} {
		if got := Rising(x.l); got != x.want {
			t.Errorf("Rising %d, %v: %v", i, x.l, got)
		}
	}
}

// P8.1: Rising of many edges, and of the same with one pair turned round or one edge twice, wherever that is.
func TestRisingWherever(t *testing.T) {
	l := allEdges()
	slices.SortFunc(l, func(a, b api.Edge) int { return rank(a).Cmp(rank(b)) })
	if !Rising(l) {
		t.Error("all edges in order aren't Rising")
	}
	for i := 1; i < len(l); i++ {
		turned := slices.Clone(l)
		turned[i-1], turned[i] = turned[i], turned[i-1]
		if Rising(turned) {
			t.Errorf("Rising with %d and the one ahead of it turned round", i)
		}
		if Rising(slices.Insert(slices.Clone(l), i, l[i])) {
			t.Errorf("Rising with %d twice", i)
		}
		if !Rising(slices.Delete(slices.Clone(l), i, i+1)) {
			t.Errorf("not Rising without %d", i)
		}
	}
}

// P8.1: what is handed in stays as it is, the spare room behind it too, which isn't looked at.
func TestRisingLeavesTheList(t *testing.T) {
	all := []api.Edge{{U: 0, V: 1}, {U: 0, V: 2}, {U: 0, V: 0}, {U: 7, V: 3}}
	was := slices.Clone(all)
	if !Rising(all[:2]) {
		t.Error("not Rising because of what is behind the list")
	}
	if Rising(all[1:3]) || Rising(all) || !slices.Equal(all, was) {
		t.Errorf("left %v of %v", all, was)
	}
}

// P8.1: by T, then by Edge, never by Add; at all times and of edges that aren't Right too.
func TestBefore(t *testing.T) {
	a, b := api.Edge{U: 1, V: 2}, api.Edge{U: 1, V: 3}
	for _, x := range []struct {
		a, b api.Event
		want bool
	}{
		{api.Event{T: 3, Edge: b}, api.Event{T: 4, Edge: a}, true},
		{api.Event{T: 4, Edge: a}, api.Event{T: 3, Edge: b}, false},
		{api.Event{T: 3, Edge: a}, api.Event{T: 3, Edge: b}, true},
		{api.Event{T: 3, Edge: b}, api.Event{T: 3, Edge: a}, false},
		{api.Event{T: 3, Edge: a}, api.Event{T: 3, Edge: a}, false},
		{api.Event{T: 3, Edge: a, Add: true}, api.Event{T: 3, Edge: a}, false},
		{api.Event{T: 3, Edge: a}, api.Event{T: 3, Edge: a, Add: true}, false},
		{api.Event{T: -3, Edge: b}, api.Event{T: 2, Edge: a}, true},
		{api.Event{T: math.MinInt64, Edge: b}, api.Event{T: math.MaxInt64, Edge: a}, true},
		{api.Event{T: math.MaxInt64, Edge: a}, api.Event{T: math.MinInt64, Edge: b}, false},
	} {
		if got := Before(x.a, x.b); got != x.want {
			t.Errorf("Before(%v, %v) = %v", x.a, x.b, got)
		}
	}
	edges := []api.Edge{{}, a, b, {U: 2, V: 0}, {U: 1<<32 - 1, V: 1<<32 - 1}}
	var l []api.Event
	for _, at := range times {
		for _, e := range edges {
			l = append(l, api.Event{T: at, Edge: e}, api.Event{T: at, Edge: e, Add: true})
		}
	}
	for _, a := range l {
		for _, b := range l {
			if got, want := Before(a, b), rankOf(a).Cmp(rankOf(b)) < 0; got != want {
				t.Errorf("Before(%v, %v) = %v", a, b, got)
			}
		}
	}
}

// P8.1: Less and Before at whatever is handed in.
func TestOrdersAtRandom(t *testing.T) {
	r := rand.New(rand.NewSource(2))
	for range 5000 {
		a := api.Event{T: int64(r.Intn(3)) - 1, Edge: someEdge(r), Add: r.Intn(2) == 0}
		b := api.Event{T: int64(r.Intn(3)) - 1, Edge: someEdge(r), Add: r.Intn(2) == 0}
		if r.Intn(4) == 0 {
			b.Edge.U = a.Edge.U
		}
		if r.Intn(4) == 0 {
			b.T = int64(r.Uint64())
		}
		if got, want := Less(a.Edge, b.Edge), rank(a.Edge).Cmp(rank(b.Edge)) < 0; got != want {
			t.Errorf("Less(%v, %v) = %v", a.Edge, b.Edge, got)
		}
		if got, want := Before(a, b), rankOf(a).Cmp(rankOf(b)) < 0; got != want {
			t.Errorf("Before(%v, %v) = %v", a, b, got)
		}
	}
}
