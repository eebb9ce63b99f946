package adj

import (
	"bytes"
	"encoding/binary"
	"math"
	"math/rand"
	"slices"
	"testing"

	"archipelago/api"
)

// last is the greatest vertex that may be.
const last = uint32(api.MaxN - 1)

// tie tells the edge of u and v, rightly named or not.
func tie(u, v uint32) api.Edge {
	return api.Edge{U: u, V: v}
}

// compareEdges holds a against b: by U, then by V.
func compareEdges(a, b api.Edge) int {
	return slices.Compare([]uint32{a.U, a.V}, []uint32{b.U, b.V})
}

// set tells the edges of l in their order, each once.
func set(l []api.Edge) []api.Edge {
	l = slices.Clone(l)
	slices.SortFunc(l, compareEdges)
	return slices.Compact(l)
}

// others tells the V of each U of l, in their order, and these U.
func others(l []api.Edge) ([]uint64, map[uint64][]uint64) {
	var us []uint64
	vs := map[uint64][]uint64{}
	for _, e := range l {
		u := uint64(e.U)
		if vs[u] == nil {
			us = append(us, u)
		}
		vs[u] = append(vs[u], uint64(e.V))
	}
	return us, vs
}

// modelPut is Put by the words of P15.1, its numbers in the library's form.
func modelPut(l []api.Edge) ([]byte, api.Errno) {
	for i, e := range l {
		if e.U >= e.V || i > 0 && compareEdges(l[i-1], e) >= 0 {
			return nil, api.ErrOrder
		}
	}
	us, vs := others(l)
	b := binary.AppendUvarint(nil, uint64(len(us)))
	for i, u := range us {
		if i == 0 {
			b = binary.AppendUvarint(b, u)
		} else {
			b = binary.AppendUvarint(b, u-(us[i-1]+1))
		}
		b = binary.AppendUvarint(b, uint64(len(vs[u])))
		for j, v := range vs[u] {
			if j == 0 {
				b = binary.AppendUvarint(b, v-(u+1))
			} else {
				b = binary.AppendUvarint(b, v-(vs[u][j-1]+1))
			}
		}
	}
	return b, api.OK
}

// cursor takes numbers in the library's form, longer ones than the shortest too; where there is none it takes all that is left as 0.
type cursor struct{ b []byte }

func (c *cursor) take() uint64 {
	v, n := binary.Uvarint(c.b)
	if n <= 0 {
		n = len(c.b)
	}
	c.b = c.b[n:]
	return v
}

// guess tells the edges that b would be if nothing in it were wrong; sums go round past 64 bits.
func guess(b []byte) []api.Edge {
	c := &cursor{b}
	var l []api.Edge
	var next uint64
	for us := c.take(); us > 0 && len(c.b) > 0; us-- {
		u := next + c.take()
		next = u + 1
		above := next
		for vs := c.take(); vs > 0 && len(c.b) > 0; vs-- {
			v := above + c.take()
			above = v + 1
			l = append(l, tie(uint32(u), uint32(v)))
		}
	}
	return l
}

// modelRead is Read by the words of P15.1: only what b would be may be right, and it is if its Put is b.
func modelRead(b []byte, n uint64) ([]api.Edge, api.Errno) {
	l := guess(b)
	for _, e := range l {
		if uint64(e.V) >= n {
			return nil, api.ErrForm
		}
	}
	if again, e := modelPut(l); e != api.OK || !bytes.Equal(again, b) {
		return nil, api.ErrForm
	}
	return l, api.OK
}

// expectPut holds Put of l against what it should tell, and l against what it was.
func expectPut(t *testing.T, l []api.Edge, want []byte, e api.Errno) {
	t.Helper()
	was := slices.Clone(l)
	if b, err := Put(l); !bytes.Equal(b, want) || err != e {
		t.Fatalf("Put(%v) = %x, %d; want %x, %d", was, b, err, want, e)
	}
	if !slices.Equal(l, was) {
		t.Fatalf("Put(%v) made %v of what it was given", was, l)
	}
}

// expectRead holds Read of b and n against what it should tell, and b against what it was.
func expectRead(t *testing.T, b []byte, n uint64, want []api.Edge, e api.Errno) {
	t.Helper()
	was := bytes.Clone(b)
	if l, err := Read(b, n); !slices.Equal(l, want) || err != e {
		t.Fatalf("Read(%x, %d) = %v, %d; want %v, %d", was, n, l, err, want, e)
	}
	if !bytes.Equal(b, was) {
		t.Fatalf("Read(%x, %d) made %x of what it was given", was, n, b)
	}
}

// expectModel holds Read of b and n against modelRead.
func expectModel(t *testing.T, b []byte, n uint64) {
	t.Helper()
	want, e := modelRead(b, n)
	expectRead(t, b, n, want, e)
}

// put tells the bytes of l, which are right.
func put(t *testing.T, l []api.Edge) []byte {
	t.Helper()
	b, e := Put(l)
	if e != api.OK {
		t.Fatalf("Put(%v): %d", l, e)
	}
	return b
}

// graphs tells each graph of n vertices.
func graphs(n uint32) [][]api.Edge {
	all := [][]api.Edge{nil}
	for u := range n {
		for v := u + 1; v < n; v++ {
			for _, l := range all[:len(all):len(all)] {
				all = append(all, append(slices.Clone(l), tie(u, v)))
			}
		}
	}
	return all
}

// someVertex tells a vertex: near 0, near the last one, or anywhere, as often of few bits as of many.
func someVertex(r *rand.Rand) uint32 {
	switch r.Intn(4) {
	case 0:
		return uint32(r.Intn(12))
	case 1:
		return last - uint32(r.Intn(12))
	}
	return r.Uint32() >> r.Intn(32)
}

// someEdges tells up to count edges in their order, often several of one U.
func someEdges(r *rand.Rand, count int) []api.Edge {
	var l []api.Edge
	u := someVertex(r)
	for range r.Intn(count + 1) {
		if r.Intn(3) == 0 {
			u = someVertex(r)
		}
		if v := someVertex(r); u != v {
			l = append(l, tie(min(u, v), max(u, v)))
		}
	}
	return set(l)
}

// cases are edges and what they are in bytes, counted out by hand.
func cases() []struct {
	l []api.Edge
	b []byte
} {
	return []struct {
		l []api.Edge
		b []byte
	}{
		{nil, []byte{0}},
		{[]api.Edge{tie(0, 1)}, []byte{1, 0, 1, 0}},
		{[]api.Edge{tie(0, 2)}, []byte{1, 0, 1, 1}},
		{[]api.Edge{tie(1, 2)}, []byte{1, 1, 1, 0}},
		{[]api.Edge{tie(3, 9)}, []byte{1, 3, 1, 5}},
		{[]api.Edge{tie(0, 1), tie(1, 2)}, []byte{2, 0, 1, 0, 0, 1, 0}},
		{[]api.Edge{tie(0, 1), tie(0, 2), tie(1, 2)}, []byte{2, 0, 2, 0, 0, 0, 1, 0}},
		{[]api.Edge{tie(2, 3), tie(2, 7), tie(2, 9), tie(6, 8)}, []byte{2, 2, 3, 0, 3, 1, 3, 1, 1}},
		{[]api.Edge{tie(0, 128)}, []byte{1, 0, 1, 127}},
		{[]api.Edge{tie(0, 129)}, []byte{1, 0, 1, 0x80, 1}},
		{[]api.Edge{tie(127, 128)}, []byte{1, 127, 1, 0}},
		{[]api.Edge{tie(128, 129)}, []byte{1, 0x80, 1, 1, 0}},
		{[]api.Edge{tie(4, 300), tie(304, 605)}, []byte{2, 4, 1, 0xa7, 2, 0xab, 2, 1, 0xac, 2}},
		{[]api.Edge{tie(0, last)}, []byte{1, 0, 1, 0xfe, 0xff, 0xff, 0xff, 0x0f}},
		{[]api.Edge{tie(last-1, last)}, []byte{1, 0xfe, 0xff, 0xff, 0xff, 0x0f, 1, 0}},
		{[]api.Edge{tie(0, 1), tie(0, last), tie(last-1, last)}, []byte{2, 0, 2, 0, 0xfd, 0xff, 0xff, 0xff, 0x0f, 0xfd, 0xff, 0xff, 0xff, 0x0f, 1, 0}},
	}
}

// P15.1: Put and Read of edges of which the bytes are counted out by hand, the document's example first.
func TestByHand(t *testing.T) {
	for _, c := range cases() {
		expectPut(t, c.l, c.b, api.OK)
		expectRead(t, c.b, api.MaxN, c.l, api.OK)
	}
}

// P15.1: a row of 128 edges, and 128 rows: such numbers are two bytes.
func TestManyInARowAndManyRows(t *testing.T) {
	star := []api.Edge{}
	path := []api.Edge{}
	for i := range uint32(128) {
		star = append(star, tie(0, i+1))
		path = append(path, tie(i, i+1))
	}
	b := append([]byte{1, 0, 0x80, 1}, make([]byte, 128)...)
	expectPut(t, star, b, api.OK)
	expectRead(t, b, 129, star, api.OK)
	b = append([]byte{0x80, 1}, bytes.Repeat([]byte{0, 1, 0}, 128)...)
	expectPut(t, path, b, api.OK)
	expectRead(t, b, 129, path, api.OK)
}

// P15.1: Put of each graph of up to five vertices, and Read of it.
func TestOfEachSmallGraph(t *testing.T) {
	for n := range uint32(6) {
		for _, l := range graphs(n) {
			l = set(l)
			want, _ := modelPut(l)
			expectPut(t, l, want, api.OK)
			expectRead(t, want, uint64(n), l, api.OK)
		}
	}
}

// P15.1: Put of each list of up to three edges of four vertices, named rightly or not, in any order, and of longer lists with an edge twice, or two in the wrong order.
func TestPutOfWhatIsNotInOrder(t *testing.T) {
	var all []api.Edge
	for u := range uint32(4) {
		for v := range uint32(4) {
			all = append(all, tie(u, v))
		}
	}
	for _, a := range all {
		for _, b := range all {
			for _, c := range all {
				for _, l := range [][]api.Edge{{a}, {a, b}, {a, b, c}} {
					want, e := modelPut(l)
					expectPut(t, l, want, e)
				}
			}
		}
	}
	l := set(someEdges(rand.New(rand.NewSource(1)), 60))
	for i := range len(l) - 1 {
		x := slices.Clone(l)
		x[i], x[i+1] = x[i+1], x[i]
		expectPut(t, x, nil, api.ErrOrder)
		x[i+1] = x[i]
		expectPut(t, x, nil, api.ErrOrder)
	}
	for i := range l {
		x := slices.Clone(l)
		x[i] = tie(l[i].V, l[i].U)
		expectPut(t, x, nil, api.ErrOrder)
		x[i] = tie(l[i].U, l[i].U)
		expectPut(t, x, nil, api.ErrOrder)
	}
	expectPut(t, []api.Edge{tie(last, last)}, nil, api.ErrOrder)
	expectPut(t, []api.Edge{tie(last, 0)}, nil, api.ErrOrder)
}

// P15.1: edges of all sizes, held against the model and read back, of just so many vertices, of one less, and of more.
func TestOfMany(t *testing.T) {
	r := rand.New(rand.NewSource(2))
	for range 20000 {
		l := someEdges(r, 40)
		want, _ := modelPut(l)
		expectPut(t, l, want, api.OK)
		most := uint64(0)
		for _, e := range l {
			most = max(most, uint64(e.V)+1)
		}
		for _, n := range []uint64{most, most + 1, api.MaxN, api.MaxN + 1, math.MaxUint64} {
			expectRead(t, want, n, l, api.OK)
		}
		if most > 0 {
			expectRead(t, want, most-1, nil, api.ErrForm)
			expectRead(t, want, 0, nil, api.ErrForm)
		}
	}
}

// P15.1: Read of all bytes up to seven of them, few values of each, for up to five vertices: the graph whose Put they are, or ErrForm.
func TestReadOfAllShortBytes(t *testing.T) {
	values := []byte{0, 1, 2, 3, 4, 0x80}
	for n := range uint32(6) {
		known := map[string][]api.Edge{}
		for _, l := range graphs(n) {
			l = set(l)
			b, _ := modelPut(l)
			known[string(b)] = l
		}
		level := [][]byte{nil}
		for range 8 {
			for _, b := range level {
				l, is := known[string(b)]
				if is {
					expectRead(t, b, uint64(n), l, api.OK)
				} else {
					expectRead(t, b, uint64(n), nil, api.ErrForm)
				}
			}
			level = longer(level, values)
		}
	}
}

// longer tells each of l with each value behind it.
func longer(l [][]byte, values []byte) [][]byte {
	var more [][]byte
	for _, b := range l {
		for _, x := range values {
			more = append(more, append(bytes.Clone(b), x))
		}
	}
	return more
}

// P15.1: what Put says, cut anywhere, and with a byte more behind it, is nothing's Put.
func TestReadOfLessAndOfMore(t *testing.T) {
	r := rand.New(rand.NewSource(3))
	for range 500 {
		b := put(t, someEdges(r, 20))
		for k := range b {
			expectRead(t, b[:k], api.MaxN, nil, api.ErrForm)
		}
		for _, x := range []byte{0, 1, 0x7f, 0x80, 0xff} {
			expectRead(t, append(bytes.Clone(b), x), api.MaxN, nil, api.ErrForm)
		}
	}
	expectRead(t, nil, api.MaxN, nil, api.ErrForm)
	expectRead(t, []byte{}, 0, nil, api.ErrForm)
}

// P15.1: what Put says, a byte of it changed, taken away or put in: the edges whose Put that is, or ErrForm.
func TestReadOfDamage(t *testing.T) {
	r := rand.New(rand.NewSource(4))
	for range 5000 {
		b := put(t, someEdges(r, 12))
		i := r.Intn(len(b))
		x := byte(r.Intn(256)) >> r.Intn(8)
		changed := bytes.Clone(b)
		changed[i] = x
		for _, d := range [][]byte{changed, slices.Delete(bytes.Clone(b), i, i+1), slices.Insert(bytes.Clone(b), i, x)} {
			for _, n := range []uint64{3, 100, 1 << 16, api.MaxN, math.MaxUint64} {
				expectModel(t, d, n)
			}
		}
	}
}

// P15.1: any bytes, mostly small ones.
func TestReadOfAnyBytes(t *testing.T) {
	r := rand.New(rand.NewSource(5))
	for range 200000 {
		b := make([]byte, r.Intn(12))
		for i := range b {
			b[i] = byte(r.Intn(256)) >> r.Intn(9)
		}
		expectModel(t, b, r.Uint64()>>r.Intn(64))
	}
}

// P15.1: one number longer than it need be, whichever it is, is nothing's Put.
func TestReadOfLongForms(t *testing.T) {
	for _, b := range [][]byte{
		{0x80, 0},
		{0x81, 0, 0, 1, 0},
		{1, 0x80, 0, 1, 0},
		{1, 0, 0x81, 0, 0},
		{1, 0, 1, 0x80, 0},
		{1, 0, 2, 0, 0x80, 0},
		{2, 0, 1, 0, 0x80, 0, 1, 0},
		{1, 0, 1, 0x80, 0x80, 0x80, 0x80, 0x80, 0x80, 0x80, 0x80, 0x80, 0},
	} {
		expectRead(t, b, api.MaxN, nil, api.ErrForm)
	}
}

// number tells v in the library's form.
func number(v uint64) []byte {
	return binary.AppendUvarint(nil, v)
}

// P15.1: numbers so great that no vertex is there, or that sums past 64 bits would come round to one that is.
func TestReadOfGreatNumbers(t *testing.T) {
	for _, n := range []uint64{0, 1, 2, 5, 1 << 31, api.MaxN - 1, api.MaxN, api.MaxN + 1, 1 << 40, 1 << 63, math.MaxUint64} {
		for _, great := range []uint64{1 << 31, api.MaxN - 3, api.MaxN - 2, api.MaxN - 1, api.MaxN, api.MaxN + 1, 1 << 63, math.MaxUint64 - 2, math.MaxUint64 - 1, math.MaxUint64} {
			g := number(great)
			for _, parts := range [][][]byte{
				// how many rows
				{g}, {g, {0, 1, 0, 0, 1, 0}},
				// the first U, a later one, both
				{{1}, g, {1, 0}}, {{2}, g, {1, 0, 0, 1, 0}}, {{2, 0, 1, 0}, g, {1, 0}}, {{2, 3, 1, 0}, g, {1, 0}}, {{2}, g, {1, 0}, g, {1, 0}},
				// how many V
				{{1, 0}, g, {0}}, {{1, 0}, g, {0, 0, 0}}, {{1, 0}, g, {0x80, 0}},
				// the first V, a later one, both
				{{1, 0, 1}, g}, {{1, 3, 1}, g}, {{1, 3, 2}, g, {0}}, {{2, 0, 1}, g, {0, 1, 0}}, {{1, 0, 2, 0}, g}, {{1, 3, 2, 1}, g}, {{1, 0, 2}, g, g},
				// U and V, so that their sum comes round
				{{1}, g, {1}, number(0 - great)}, {{1}, g, {1}, number(0 - great - 1)},
			} {
				expectModel(t, slices.Concat(parts...), n)
			}
		}
	}
}

// P15.1: V is below n, and below MaxN whatever n is; n is no vertex itself.
func TestReadBelowN(t *testing.T) {
	for _, v := range []uint32{1, 2, 5, 127, 128, 129, 1 << 16, 1 << 31, last - 1, last} {
		for _, u := range []uint32{0, v / 2, v - 1} {
			l := []api.Edge{tie(u, v)}
			b := put(t, l)
			expectRead(t, b, uint64(v)+1, l, api.OK)
			expectRead(t, b, uint64(v), nil, api.ErrForm)
			expectRead(t, b, math.MaxUint64, l, api.OK)
		}
	}
	for _, n := range []uint64{0, 1, 2, api.MaxN, math.MaxUint64} {
		expectRead(t, []byte{0}, n, nil, api.OK)
	}
}

// P15.1: no row is empty, and none is missing.
func TestReadOfEmptyRows(t *testing.T) {
	for _, b := range [][]byte{
		{1},
		{1, 0},
		{1, 0, 0},
		{2, 0, 1, 0, 0, 0},
		{2, 0, 0, 0, 1, 0},
		{2, 0, 1, 0},
		{0, 0, 1, 0},
	} {
		expectRead(t, b, 9, nil, api.ErrForm)
	}
}

// P15.2: neighbours are near: where all edges are between a vertex and the next ones, each gap is a byte, wherever they are.
func TestNeighboursAreNear(t *testing.T) {
	for _, first := range []uint32{0, 1000, 1 << 31, last - 300} {
		var path, grid []api.Edge
		for i := range uint32(300) {
			path = append(path, tie(first+i, first+i+1))
			if i+2 <= 300 {
				grid = append(grid, tie(first+i, first+i+1), tie(first+i, first+i+2))
			}
		}
		head := len(number(300)) + len(number(uint64(first)))
		if b := put(t, path); len(b) != head+300*3-1 {
			t.Errorf("P15.2: 300 edges in a row from %d on: %d bytes", first, len(b))
		}
		head = len(number(299)) + len(number(uint64(first)))
		if b := put(t, grid); len(b) != head+299*4-1 {
			t.Errorf("P15.2: 598 edges to the next two from %d on: %d bytes", first, len(b))
		}
	}
}

// P15.2: what all vertices have in common is told once: edges that are moved differ in the first U alone.
func TestMovedEdges(t *testing.T) {
	r := rand.New(rand.NewSource(6))
	for range 300 {
		var l, moved []api.Edge
		by := uint32(r.Intn(1 << 30))
		for _, e := range someEdges(r, 30) {
			l = append(l, tie(e.U>>2, e.V>>2+1))
		}
		l = set(l)
		for _, e := range l {
			moved = append(moved, tie(e.U+by, e.V+by))
		}
		if len(l) == 0 {
			continue
		}
		us, _ := others(l)
		head := number(uint64(len(us)))
		a, is := bytes.CutPrefix(put(t, l), append(bytes.Clone(head), number(uint64(l[0].U))...))
		b, are := bytes.CutPrefix(put(t, moved), append(bytes.Clone(head), number(uint64(l[0].U+by))...))
		if !is || !are || !bytes.Equal(a, b) {
			t.Fatalf("P15.2: %v moved by %d", l, by)
		}
	}
}

// P15.1: what is handed in stays as it is, with the room behind it; a nil list and an empty one are the same.
func TestWhatIsHandedInStays(t *testing.T) {
	l := []api.Edge{tie(0, 1), tie(0, 3), tie(2, 3), tie(7, 8), tie(9, 9)}
	was := slices.Clone(l)
	b := put(t, l[:3])
	if !slices.Equal(l, was) {
		t.Errorf("Put made %v of %v", l, was)
	}
	room := append(bytes.Clone(b), 5, 6, 7)
	wide := bytes.Clone(room)
	if got, e := Read(room[:len(b)], 4); !slices.Equal(got, l[:3]) || e != api.OK {
		t.Errorf("Read of bytes with room behind them: %v, %d", got, e)
	}
	if !bytes.Equal(room, wide) {
		t.Errorf("Read made %x of %x", room, wide)
	}
	expectPut(t, []api.Edge{}, []byte{0}, api.OK)
	expectPut(t, nil, []byte{0}, api.OK)
}

// P15.1: answers are new memory, and the same again tells the same.
func TestAnswersAreNew(t *testing.T) {
	l := []api.Edge{tie(0, 1), tie(0, 3), tie(2, 3)}
	for _, x := range [][]api.Edge{l, nil} {
		b := put(t, x)
		kept := bytes.Clone(b)
		other := put(t, x)
		clear(other[:cap(other)])
		if !bytes.Equal(b, kept) || !bytes.Equal(put(t, x), kept) {
			t.Errorf("Put(%v) shares what it answers", x)
		}
	}
	b := put(t, l)
	first, _ := Read(b, 4)
	second, _ := Read(b, 4)
	clear(second[:cap(second)])
	clear(b)
	if !slices.Equal(first, l) {
		t.Errorf("Read shares what it answers, or keeps what it was given: %v", first)
	}
	expectRead(t, put(t, l), 4, l, api.OK)
}

// P15.1: a great graph, both ways.
func TestGreatGraph(t *testing.T) {
	r := rand.New(rand.NewSource(7))
	var l []api.Edge
	for range 300000 {
		u, v := r.Uint32()>>12, r.Uint32()>>12
		if u != v {
			l = append(l, tie(min(u, v), max(u, v)))
		}
	}
	l = set(l)
	want, _ := modelPut(l)
	if b := put(t, l); !bytes.Equal(b, want) {
		t.Errorf("Put of %d edges: %d bytes, want %d", len(l), len(b), len(want))
	}
	if got, e := Read(want, 1<<20); !slices.Equal(got, l) || e != api.OK {
		t.Errorf("Read of %d edges: %d, %d", len(l), len(got), e)
	}
}
