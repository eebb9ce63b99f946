package table

import (
	"cmp"
	"fmt"
	"math"
	"math/rand"
	"slices"
	"strings"
	"testing"

	"archipelago/api"
	"archipelago/history"
	"archipelago/life"
)

// last is the greatest vertex that may be.
const last = uint32(api.MaxN - 1)

// text is the table of some.
const text = "table 5\n0 1 0 3\n0 1 5 12\n1 2 0 9\n1 2 10 -\n2 3 3 9\n3 4 0 -\n"

// lasted tells the life of the edge of u and v from one time to another.
func lasted(u, v uint32, from, to int64) api.Life {
	return api.Life{Edge: api.Edge{U: u, V: v}, From: from, To: to}
}

// turn tells the event by which the edge of u and v comes, or goes.
func turn(t int64, add bool, u, v uint32) api.Event {
	return api.Event{T: t, Edge: api.Edge{U: u, V: v}, Add: add}
}

// some is a Right history of five vertices: several events at one time, an edge that comes again, some that never go.
func some() api.History {
	return api.History{N: 5, Events: []api.Event{
		turn(0, true, 0, 1), turn(0, true, 1, 2), turn(0, true, 3, 4),
		turn(3, false, 0, 1), turn(3, true, 2, 3), turn(5, true, 0, 1),
		turn(9, false, 1, 2), turn(9, false, 2, 3), turn(10, true, 1, 2), turn(12, false, 0, 1),
	}}
}

// told is the history of n vertices whose lives these are: a life is two events, or one.
func told(n uint64, lives ...api.Life) api.History {
	h := api.History{N: n}
	for _, l := range lives {
		h.Events = append(h.Events, api.Event{T: l.From, Edge: l.Edge, Add: true})
		if l.To != -1 {
			h.Events = append(h.Events, api.Event{T: l.To, Edge: l.Edge})
		}
	}
	slices.SortFunc(h.Events, func(a, b api.Event) int {
		return cmp.Or(cmp.Compare(a.T, b.T), cmp.Compare(a.Edge.U, b.Edge.U), cmp.Compare(a.Edge.V, b.Edge.V))
	})
	return h
}

// written is the table of the lives by the words of P14.1, whether they are lives of a history or not.
func written(n uint64, lives ...api.Life) string {
	s := fmt.Sprintf("table %d\n", n)
	for _, l := range lives {
		to := "-"
		if l.To != -1 {
			to = fmt.Sprint(l.To)
		}
		s += fmt.Sprintf("%d %d %d %s\n", l.Edge.U, l.Edge.V, l.From, to)
	}
	return s
}

// firstLine and eachLine are what the lines are made of: texts, numbers ("#" and the greatest), ends ("-#": "-" or such a number).
var (
	firstLine = []string{"table", " ", "#4294967296", "\n"}
	eachLine  = []string{"#4294967295", " ", "#4294967295", " ", "#4611686018427387903", " ", "-#4611686018427387903", "\n"}
)

// part tells how long the part is with which rest begins, or why it doesn't.
func part(rest, want string) (int, api.Errno) {
	if strings.HasPrefix(want, "-#") {
		if strings.HasPrefix(rest, "-") {
			return 1, api.OK
		}
		want = want[1:]
	}
	most, number := strings.CutPrefix(want, "#")
	digits := rest[:len(rest)-len(strings.TrimLeft(rest, "0123456789"))]
	switch {
	case !number && strings.HasPrefix(rest, want):
		return len(want), api.OK
	case rest == "", !number && strings.HasPrefix(want, rest):
		return 0, api.ErrShort
	case !number, digits == "", digits != "0" && digits[0] == '0':
		return 0, api.ErrForm
	case len(digits) > len(most), len(digits) == len(most) && digits > most:
		return 0, api.ErrLong
	}
	return len(digits), api.OK
}

// parts tells the words of a line that is made of what is wanted; else the column of the first part that isn't so, and why.
func parts(line string, wanted []string) ([]string, int, api.Errno) {
	at := 0
	for _, want := range wanted {
		size, e := part(line[at:], want)
		if e != api.OK {
			return nil, at + 1, e
		}
		at += size
	}
	return strings.Fields(line[:at]), 0, api.OK
}

// number is the number that is written there; -1 of "-".
func number(s string) int64 {
	if s == "-" {
		return -1
	}
	var n int64
	for _, b := range []byte(s) {
		n = n*10 + int64(b-'0')
	}
	return n
}

// modelParse is Parse: each line is read, and held against the lines ahead of it as soon as it is whole.
func modelParse(s string) (api.History, api.Place, api.Errno) {
	lines := strings.SplitAfter(s, "\n")
	words, col, e := parts(lines[0], firstLine)
	if e != api.OK {
		return api.History{}, api.Place{Line: 1, Col: col}, e
	}
	n := uint64(number(words[1]))
	var lives []api.Life
	for i, line := range lines[1:] {
		if line == "" {
			break // behind the last line feed
		}
		words, col, e := parts(line, eachLine)
		if e != api.OK {
			return api.History{}, api.Place{Line: i + 2, Col: col}, e
		}
		lives = append(lives, lasted(uint32(number(words[0])), uint32(number(words[1])), number(words[2]), number(words[3])))
		if _, e := life.Check(n, lives); e != api.OK {
			return api.History{}, api.Place{Line: i + 2, Col: 1}, e
		}
	}
	return told(n, lives...), api.Place{}, api.OK
}

// expectPrint holds Print of h against what it should tell.
func expectPrint(t *testing.T, h api.History, want string, e api.Errno) {
	t.Helper()
	if s, err := Print(h); s != want || err != e {
		t.Errorf("Print(%v) = %q, %d; want %q, %d", h, s, err, want, e)
	}
}

// expectParse holds Parse of s against what it should tell.
func expectParse(t *testing.T, s string, want api.History, at api.Place, e api.Errno) {
	t.Helper()
	if h, place, err := Parse(s); !history.Same(h, want) || place != at || err != e {
		t.Errorf("Parse(%q) = %v, %v, %d; want %v, %v, %d", s, h, place, err, want, at, e)
	}
}

// expectBoth has h and s be each other's.
func expectBoth(t *testing.T, h api.History, s string) {
	t.Helper()
	expectPrint(t, h, s, api.OK)
	expectParse(t, s, h, api.Place{}, api.OK)
}

// expectFault has Parse of s tell the error e at a line and a column, and no history.
func expectFault(t *testing.T, s string, line, col int, e api.Errno) {
	t.Helper()
	expectParse(t, s, api.History{}, api.Place{Line: line, Col: col}, e)
}

// expectModel holds Parse of s against the model, and what it reads against its text; it tells the error.
func expectModel(t *testing.T, s string) api.Errno {
	t.Helper()
	h, at, e := modelParse(s)
	expectParse(t, s, h, at, e)
	if e == api.OK {
		expectPrint(t, h, s, api.OK)
	}
	return e
}

// someN tells how many vertices there are: few or many.
func someN(r *rand.Rand) uint64 {
	return []uint64{2, 3, 5, 9, 100, api.MaxN - 1, api.MaxN}[r.Intn(7)]
}

// someLives tells lives of so many edges at most, in order, of a Right history of n vertices.
func someLives(r *rand.Rand, n uint64, edges int) []api.Life {
	var all []api.Edge
	for range edges {
		u, v := uint32(r.Uint64()%n), uint32(r.Uint64()%n)
		if u != v {
			all = append(all, api.Edge{U: min(u, v), V: max(u, v)})
		}
	}
	slices.SortFunc(all, func(a, b api.Edge) int { return cmp.Or(cmp.Compare(a.U, b.U), cmp.Compare(a.V, b.V)) })
	var lives []api.Life
	for _, e := range slices.Compact(all) {
		at := r.Int63n(1 << r.Intn(40))
		for range 1 + r.Intn(4) {
			to := at + 1 + r.Int63n(1<<r.Intn(40))
			if r.Intn(4) == 0 {
				lives = append(lives, lasted(e.U, e.V, at, -1))
				break
			}
			lives = append(lives, lasted(e.U, e.V, at, to))
			at = to + 1 + r.Int63n(1<<r.Intn(3))
		}
	}
	return lives
}

// P14.1: Print is "table" and N, then a line of each life, by its edge, then by when it begins; Parse is the way back.
func TestOfRightOnes(t *testing.T) {
	expectBoth(t, api.History{}, "table 0\n")
	expectBoth(t, api.History{Events: []api.Event{}}, "table 0\n")
	expectBoth(t, told(1), "table 1\n")
	expectBoth(t, told(10), "table 10\n")
	expectBoth(t, told(api.MaxN), "table 4294967296\n")
	expectBoth(t, told(2, lasted(0, 1, 0, -1)), "table 2\n0 1 0 -\n")
	expectBoth(t, told(2, lasted(0, 1, 0, 1)), "table 2\n0 1 0 1\n")
	expectBoth(t, told(2, lasted(0, 1, 7, 100)), "table 2\n0 1 7 100\n")
	expectBoth(t, told(3, lasted(0, 1, 90, 100), lasted(0, 2, 80, -1), lasted(1, 2, 7, 8)), "table 3\n0 1 90 100\n0 2 80 -\n1 2 7 8\n")
	expectBoth(t, told(100, lasted(2, 10, 9, -1), lasted(2, 11, 9, -1), lasted(10, 11, 9, -1)), "table 100\n2 10 9 -\n2 11 9 -\n10 11 9 -\n")
	expectBoth(t, told(2, lasted(0, 1, 9, 10), lasted(0, 1, 11, 99), lasted(0, 1, 100, 101), lasted(0, 1, 1000, -1)), "table 2\n0 1 9 10\n0 1 11 99\n0 1 100 101\n0 1 1000 -\n")
	expectBoth(t, some(), text)
}

// P14.1: Print of a history that isn't Right tells history.Check's error, the first one, and no text.
func TestPrintOfWrongOnes(t *testing.T) {
	for _, x := range []struct {
		n      uint64
		events []api.Event
		e      api.Errno
	}{
		{api.MaxN + 1, nil, api.ErrLimit},
		{math.MaxUint64, nil, api.ErrLimit},
		{api.MaxN + 1, []api.Event{turn(0, true, 1, 0)}, api.ErrLimit},
		{2, []api.Event{turn(-1, true, 0, 1)}, api.ErrLimit},
		{2, []api.Event{turn(math.MinInt64, true, 0, 1)}, api.ErrLimit},
		{2, []api.Event{turn(api.MaxTime+1, true, 0, 1)}, api.ErrLimit},
		{2, []api.Event{turn(0, true, 0, 1), turn(math.MaxInt64, false, 0, 1)}, api.ErrLimit},
		{2, []api.Event{turn(-1, true, 1, 0)}, api.ErrLimit},
		{0, []api.Event{turn(0, true, 0, 0)}, api.ErrVertex},
		{1, []api.Event{turn(0, true, 0, 1)}, api.ErrVertex},
		{2, []api.Event{turn(0, true, 1, 0)}, api.ErrVertex},
		{2, []api.Event{turn(0, false, 1, 1)}, api.ErrVertex},
		{api.MaxN, []api.Event{turn(0, true, last, last)}, api.ErrVertex},
		{api.MaxN - 1, []api.Event{turn(0, true, 0, last)}, api.ErrVertex},
		{3, []api.Event{turn(4, true, 0, 1), turn(3, true, 0, 2)}, api.ErrOrder},
		{3, []api.Event{turn(4, true, 0, 2), turn(4, true, 0, 1)}, api.ErrOrder},
		{3, []api.Event{turn(4, true, 0, 1), turn(4, false, 0, 1)}, api.ErrOrder},
		{3, []api.Event{turn(0, false, 0, 1)}, api.ErrEdge},
		{3, []api.Event{turn(4, true, 0, 1), turn(5, true, 0, 1)}, api.ErrEdge},
		{3, []api.Event{turn(4, true, 0, 1), turn(5, false, 0, 1), turn(6, false, 0, 1)}, api.ErrEdge},
		{3, []api.Event{turn(4, true, 0, 1), turn(5, false, 0, 2), turn(3, true, 0, 2), turn(-1, true, 0, 1)}, api.ErrEdge},
		{3, []api.Event{turn(4, true, 0, 1), turn(3, true, 0, 2), turn(-1, true, 0, 1), turn(5, false, 0, 2)}, api.ErrOrder},
	} {
		expectPrint(t, api.History{N: x.n, Events: x.events}, "", x.e)
	}
}

// P14.1: what is missing, or stands there instead, is told where it was asked for.
func TestParseTellsWhere(t *testing.T) {
	for _, x := range []struct {
		s         string
		line, col int
		e         api.Errno
	}{
		{"", 1, 1, api.ErrShort},
		{"t", 1, 1, api.ErrShort},
		{"tabl", 1, 1, api.ErrShort},
		{"tablet", 1, 6, api.ErrForm},
		{"tabel 1\n", 1, 1, api.ErrForm},
		{"Table 1\n", 1, 1, api.ErrForm},
		{" table 1\n", 1, 1, api.ErrForm},
		{"\ntable 1\n", 1, 1, api.ErrForm},
		{"log 1\n", 1, 1, api.ErrForm},
		{"table", 1, 6, api.ErrShort},
		{"table1\n", 1, 6, api.ErrForm},
		{"table\t1\n", 1, 6, api.ErrForm},
		{"table\n", 1, 6, api.ErrForm},
		{"table ", 1, 7, api.ErrShort},
		{"table \n", 1, 7, api.ErrForm},
		{"table  1\n", 1, 7, api.ErrForm},
		{"table -\n", 1, 7, api.ErrForm},
		{"table +1\n", 1, 7, api.ErrForm},
		{"table x\n", 1, 7, api.ErrForm},
		{"table 00\n", 1, 7, api.ErrForm},
		{"table 01", 1, 7, api.ErrForm},
		{"table 4294967297\n", 1, 7, api.ErrLong},
		{"table 4294967297", 1, 7, api.ErrLong},
		{"table 18446744073709551616\n", 1, 7, api.ErrLong},
		{"table 18446744073709551617x", 1, 7, api.ErrLong},
		{"table 1", 1, 8, api.ErrShort},
		{"table 1 \n", 1, 8, api.ErrForm},
		{"table 1\r\n", 1, 8, api.ErrForm},
		{"table 1x", 1, 8, api.ErrForm},
		{"table 4294967296", 1, 17, api.ErrShort},
		{"table 9\n\n", 2, 1, api.ErrForm},
		{"table 9\n ", 2, 1, api.ErrForm},
		{"table 9\ntable 9\n", 2, 1, api.ErrForm},
		{"table 9\n- 1 0 -\n", 2, 1, api.ErrForm},
		{"table 9\n00 1 0 -\n", 2, 1, api.ErrForm},
		{"table 9\n4294967296 1 0 -\n", 2, 1, api.ErrLong},
		{"table 9\n18446744073709551616 1 0 -\n", 2, 1, api.ErrLong},
		{"table 9\n7", 2, 2, api.ErrShort},
		{"table 9\n7\n", 2, 2, api.ErrForm},
		{"table 9\n7-8 0 -\n", 2, 2, api.ErrForm},
		{"table 9\n7 ", 2, 3, api.ErrShort},
		{"table 9\n7 \n", 2, 3, api.ErrForm},
		{"table 9\n7  8 0 -\n", 2, 3, api.ErrForm},
		{"table 9\n7 - 0 -\n", 2, 3, api.ErrForm},
		{"table 9\n7 08 0 -\n", 2, 3, api.ErrForm},
		{"table 9\n7 4294967296 0 -\n", 2, 3, api.ErrLong},
		{"table 9\n7 18446744073709551616 0 -\n", 2, 3, api.ErrLong},
		{"table 9\n7 8", 2, 4, api.ErrShort},
		{"table 9\n7 8\n", 2, 4, api.ErrForm},
		{"table 9\n7 8-\n", 2, 4, api.ErrForm},
		{"table 9\n7 8 ", 2, 5, api.ErrShort},
		{"table 9\n7 8 \n", 2, 5, api.ErrForm},
		{"table 9\n7 8  6 -\n", 2, 5, api.ErrForm},
		{"table 9\n7 8 -\n", 2, 5, api.ErrForm},
		{"table 9\n7 8 - -\n", 2, 5, api.ErrForm},
		{"table 9\n7 8 -1 -\n", 2, 5, api.ErrForm},
		{"table 9\n7 8 + 6\n", 2, 5, api.ErrForm},
		{"table 9\n7 8 06 -\n", 2, 5, api.ErrForm},
		{"table 9\n7 8 4611686018427387904 -\n", 2, 5, api.ErrLong},
		{"table 9\n7 8 9223372036854775808 -\n", 2, 5, api.ErrLong},
		{"table 9\n7 8 18446744073709551616 -\n", 2, 5, api.ErrLong},
		{"table 9\n7 8 6", 2, 6, api.ErrShort},
		{"table 9\n7 8 6\n", 2, 6, api.ErrForm},
		{"table 9\n7 8 6-\n", 2, 6, api.ErrForm},
		{"table 9\n7 8 6 ", 2, 7, api.ErrShort},
		{"table 9\n7 8 6 \n", 2, 7, api.ErrForm},
		{"table 9\n7 8 6  -\n", 2, 7, api.ErrForm},
		{"table 9\n7 8 6 +\n", 2, 7, api.ErrForm},
		{"table 9\n7 8 6 x\n", 2, 7, api.ErrForm},
		{"table 9\n7 8 6 \x00\n", 2, 7, api.ErrForm},
		{"table 9\n7 8 6 07\n", 2, 7, api.ErrForm},
		{"table 9\n7 8 6 4611686018427387904\n", 2, 7, api.ErrLong},
		{"table 9\n7 8 6 9223372036854775808\n", 2, 7, api.ErrLong},
		{"table 9\n7 8 6 18446744073709551615\n", 2, 7, api.ErrLong},
		{"table 9\n7 8 6 18446744073709551616\n", 2, 7, api.ErrLong},
		{"table 9\n7 8 6 7", 2, 8, api.ErrShort},
		{"table 9\n7 8 6 -", 2, 8, api.ErrShort},
		{"table 9\n7 8 6 -7\n", 2, 8, api.ErrForm},
		{"table 9\n7 8 6 --\n", 2, 8, api.ErrForm},
		{"table 9\n7 8 6 7-\n", 2, 8, api.ErrForm},
		{"table 9\n7 8 6 7 ", 2, 8, api.ErrForm},
		{"table 9\n7 8 6 - \n", 2, 8, api.ErrForm},
		{"table 9\n7 8 6 7\r\n", 2, 8, api.ErrForm},
		{"table 9\n7 8 6 7\x00", 2, 8, api.ErrForm},
		{text + "\n", 8, 1, api.ErrForm},
		{text + " ", 8, 1, api.ErrForm},
		{text + "13", 8, 3, api.ErrShort},
		{text + "3 4 10 1", 8, 9, api.ErrShort},
		{text + "0 4 0 -", 8, 8, api.ErrShort},
	} {
		expectFault(t, x.s, x.line, x.col, x.e)
	}
}

// P14.1: numbers up to their bounds: the scanner takes them, whatever chapter 10 says of the line.
func TestOfGreatestNumbers(t *testing.T) {
	expectBoth(t, told(api.MaxN, lasted(0, last, 0, api.MaxTime)), "table 4294967296\n0 4294967295 0 4611686018427387903\n")
	expectBoth(t, told(api.MaxN, lasted(last-1, last, api.MaxTime-1, api.MaxTime)), "table 4294967296\n4294967294 4294967295 4611686018427387902 4611686018427387903\n")
	expectBoth(t, told(api.MaxN, lasted(last-1, last, api.MaxTime, -1)), "table 4294967296\n4294967294 4294967295 4611686018427387903 -\n")
	expectFault(t, "table 4294967296\n4294967295 4294967295 0 -\n", 2, 1, api.ErrVertex)
	expectFault(t, "table 4294967295\n0 4294967295 0 -\n", 2, 1, api.ErrVertex)
	expectFault(t, "table 4294967296\n4294967294 4294967296 0 -\n", 2, 12, api.ErrLong)
	expectFault(t, "table 4294967296\n4294967296 4294967295 0 -\n", 2, 1, api.ErrLong)
	expectFault(t, "table 4294967296\n0 1 4611686018427387903 4611686018427387903\n", 2, 1, api.ErrOrder)
	expectFault(t, "table 4294967296\n0 1 4611686018427387903 4611686018427387904\n", 2, 25, api.ErrLong)
	expectFault(t, "table 4294967296\n0 1 4611686018427387904 4611686018427387903\n", 2, 5, api.ErrLong)
}

// P14.1: where a line is whole, and the lives up to it have an error, that is told at its column 1, whatever stands behind it.
func TestParseOfWholeLines(t *testing.T) {
	for _, x := range []struct {
		lines string
		at    int
		e     api.Errno
	}{
		{"table 0\n0 0 0 -\n", 2, api.ErrVertex},
		{"table 1\n0 1 0 -\n", 2, api.ErrVertex},
		{"table 2\n1 0 0 -\n", 2, api.ErrVertex},
		{"table 2\n1 1 0 1\n", 2, api.ErrVertex},
		{"table 2\n0 2 5 1\n", 2, api.ErrVertex},
		{"table 2\n0 1 0 0\n", 2, api.ErrOrder},
		{"table 2\n0 1 5 5\n", 2, api.ErrOrder},
		{"table 2\n0 1 5 4\n", 2, api.ErrOrder},
		{"table 2\n0 1 5 0\n", 2, api.ErrOrder},
		{"table 2\n0 1 0 -\n0 1 0 -\n", 3, api.ErrOrder},
		{"table 2\n0 1 0 -\n0 1 5 -\n", 3, api.ErrOrder},
		{"table 2\n0 1 0 5\n0 1 0 5\n", 3, api.ErrOrder},
		{"table 2\n0 1 0 5\n0 1 4 6\n", 3, api.ErrOrder},
		{"table 2\n0 1 0 5\n0 1 5 6\n", 3, api.ErrOrder},
		{"table 2\n0 1 8 9\n0 1 5 6\n", 3, api.ErrOrder},
		{"table 3\n0 2 0 5\n0 1 6 7\n", 3, api.ErrOrder},
		{"table 3\n1 2 0 -\n0 1 0 -\n", 3, api.ErrOrder},
		{"table 3\n0 1 0 -\n0 3 0 -\n", 3, api.ErrVertex},
		{"table 3\n0 1 0 -\n0 2 0 -\n0 1 0 -\n", 4, api.ErrOrder},
		{text + "3 4 5 -\n", 8, api.ErrOrder},
		{text + "0 1 13 14\n", 8, api.ErrOrder},
		{text + "4 5 0 -\n", 8, api.ErrVertex},
	} {
		for _, behind := range []string{"", "x", "\n", "99", "9 9 9 9", "1 0 0 -\n", "0 9 9 0\n", "4294967296 ", "table 2\n"} {
			expectFault(t, x.lines+behind, x.at, 1, x.e)
		}
		// As long as the line isn't whole, it is what the scanner stumbles on that is told.
		open := x.lines[:len(x.lines)-1]
		begin := strings.LastIndexByte(open, '\n') + 1
		expectFault(t, open, x.at, len(open)-begin+1, api.ErrShort)
		expectFault(t, open+" \n", x.at, len(open)-begin+1, api.ErrForm)
		to := strings.LastIndexByte(open, ' ') + 1
		expectFault(t, open[:to]+"4611686018427387904\n", x.at, to-begin+1, api.ErrLong)
	}
	// A line behind one that isn't whole isn't looked at.
	expectFault(t, "table 2\n0 1 0 1 \n0 1 0 0\n", 2, 8, api.ErrForm)
	expectFault(t, "table 4294967297\n0 1 0 0\n", 1, 7, api.ErrLong)
}

// P14.1: each beginning of a text, and each text with one byte left out, put in, or changed.
func TestParseOfDamagedBytes(t *testing.T) {
	times := map[api.Errno]int{}
	for _, s := range []string{text, "table 2\n0 1 0 -\n", "table 10\n", "table 4294967296\n0 4294967295 0 4611686018427387903\n2 3 4611686018427387903 -\n"} {
		for i := range len(s) + 1 {
			times[expectModel(t, s[:i])]++
			for b := range 256 {
				times[expectModel(t, s[:i]+string([]byte{byte(b)})+s[i:])]++
				if i < len(s) {
					times[expectModel(t, s[:i]+string([]byte{byte(b)})+s[i+1:])]++
				}
			}
			if i < len(s) {
				times[expectModel(t, s[:i]+s[i+1:])]++
			}
		}
	}
	for _, e := range []api.Errno{api.OK, api.ErrShort, api.ErrForm, api.ErrLong, api.ErrVertex, api.ErrOrder} {
		if times[e] == 0 {
			t.Errorf("none of them has %d", e)
		}
	}
}

// P14.1: all short runs of bytes of the kinds that matter, behind beginnings of all lengths.
func TestParseOfAllShortOnes(t *testing.T) {
	const bytes = "012 -+\nx"
	for _, begin := range []string{"", "table", "table ", "table 2", "table 2\n", "table 2\n0", "table 2\n0 ", "table 2\n0 1", "table 2\n0 1 ", "table 2\n0 1 0", "table 2\n0 1 0 ", "table 2\n0 1 0 2", "table 2\n0 1 0 -", "table 2\n0 1 0 -\n", "table 2\n0 1 0 1\n0 1 "} {
		runs := []string{""}
		for i := 0; i < len(runs); i++ {
			expectModel(t, begin+runs[i])
			for _, b := range []byte(bytes) {
				if len(runs[i]) < 4 {
					runs = append(runs, runs[i]+string(b))
				}
			}
		}
	}
}

// P14.1: all lists of up to three lives out of a few, right or not: told as the chapter's words have it.
func TestParseOfAllShortLists(t *testing.T) {
	var all []api.Life
	for _, e := range []api.Edge{{U: 0, V: 1}, {U: 0, V: 2}, {U: 1, V: 2}, {U: 1, V: 1}, {U: 1, V: 3}} {
		for from := range int64(3) {
			for _, to := range []int64{-1, 0, 1, 2, 3} {
				all = append(all, lasted(e.U, e.V, from, to))
			}
		}
	}
	for _, a := range all {
		if expectModel(t, written(3, a)) != api.OK {
			continue // and so is each longer one: see TestParseOfWholeLines
		}
		for _, b := range all {
			if expectModel(t, written(3, a, b)) != api.OK {
				continue
			}
			for _, c := range all {
				expectModel(t, written(3, a, b, c))
			}
		}
	}
}

// P14.1: all histories of up to four events of two edges: Print's text, or history.Check's error.
func TestPrintOfAllShortHistories(t *testing.T) {
	var all []api.Event
	for _, at := range []int64{0, 1, 2, 3} {
		for _, v := range []uint32{1, 2} {
			all = append(all, turn(at, true, 0, v), turn(at, false, 0, v))
		}
	}
	lists := [][]api.Event{nil}
	for i := 0; i < len(lists); i++ {
		h := api.History{N: 3, Events: lists[i]}
		if _, e := history.Check(h); e != api.OK {
			expectPrint(t, h, "", e)
			continue
		}
		s, e := Print(h)
		if e != api.OK {
			t.Errorf("Print(%v): %d", h, e)
		}
		expectModel(t, s)
		expectParse(t, s, h, api.Place{}, api.OK)
		for _, next := range all {
			if len(lists[i]) < 4 {
				lists = append(lists, append(slices.Clone(lists[i]), next))
			}
		}
	}
}

// P14.1: longer Right histories, there and back.
func TestRightOnesAtRandom(t *testing.T) {
	r := rand.New(rand.NewSource(1))
	for range 1000 {
		n := someN(r)
		lives := someLives(r, n, r.Intn(60))
		expectBoth(t, told(n, lives...), written(n, lives...))
	}
}

// P14.1: longer lists of which a life is changed, or stands elsewhere, or is missing, or is there twice.
func TestWrongOnesAtRandom(t *testing.T) {
	r := rand.New(rand.NewSource(2))
	for range 3000 {
		n := someN(r)
		lives := someLives(r, n, 2+r.Intn(30))
		if len(lives) == 0 {
			continue
		}
		i, j := r.Intn(len(lives)), r.Intn(len(lives))
		l := &lives[i]
		switch r.Intn(8) {
		case 0:
			l.From = max(0, l.From+int64(r.Intn(5))-2)
		case 1:
			l.To = max(-1, l.To+int64(r.Intn(5))-2)
		case 2:
			l.Edge.U += uint32(r.Intn(5)) - 2
		case 3:
			l.Edge.V += uint32(r.Intn(5)) - 2
		case 4:
			l.To = -1
		case 5:
			lives[i], lives[j] = lives[j], lives[i]
		case 6:
			*l = lives[j]
		case 7:
			lives = slices.Delete(lives, i, i+1)
		}
		expectModel(t, written(n, lives...))
	}
}

// P14.1: longer texts of which several bytes are changed, so that several errors apply: the first is told.
func TestParseAtRandom(t *testing.T) {
	const bytes = "0123456789   --\n\n\n+tablex\r\x00\xff"
	r := rand.New(rand.NewSource(3))
	for range 5000 {
		n := someN(r)
		s := []byte(written(n, someLives(r, n, r.Intn(20))...))
		for range 1 + r.Intn(4) {
			s[r.Intn(len(s))] = bytes[r.Intn(len(bytes))]
		}
		expectModel(t, string(s))
	}
	for range 5000 {
		s := make([]byte, r.Intn(40))
		for i := range s {
			s[i] = bytes[r.Intn(len(bytes))]
		}
		expectModel(t, string(s))
		expectModel(t, "table 3\n"+string(s))
	}
}

// P14.1: beside an error there is no history, and beside a history no place.
func TestBesideAnError(t *testing.T) {
	for _, s := range []string{"table 7", "table 7\n0 1 0 -", "table 7\n0 1 0 -\n0 1 0 -\n", "table 7\n0 9 0 -\n"} {
		if h, at, e := Parse(s); h.N != 0 || len(h.Events) != 0 || at == (api.Place{}) || e == api.OK {
			t.Errorf("Parse(%q) = %v, %v, %d", s, h, at, e)
		}
	}
	if _, at, e := Parse(text); at != (api.Place{}) || e != api.OK {
		t.Errorf("Parse(text): %v, %d", at, e)
	}
}

// P14.1: a history of many lives, there and back, and a fault in its last line.
func TestOfManyLives(t *testing.T) {
	const n = 400
	var lives []api.Life
	for u := range uint32(n) {
		for v := u + 1; v < n; v++ {
			lives = append(lives, lasted(u, v, int64(u^v), 1000-int64(v)), lasted(u, v, 1000+int64(u), -1))
		}
	}
	h := told(n, lives...)
	s, e := Print(h)
	if e != api.OK || strings.Count(s, "\n") != len(lives)+1 {
		t.Fatalf("Print of many: %d bytes, %d", len(s), e)
	}
	for range 2 {
		if got, at, e := Parse(s); !history.Same(got, h) || at != (api.Place{}) || e != api.OK {
			t.Fatalf("Parse of many: %d events, %v, %d", len(got.Events), at, e)
		}
		if again, e := Print(h); again != s || e != api.OK {
			t.Fatalf("Print of many again: %d bytes, %d", len(again), e)
		}
	}
	expectFault(t, s+"398 399 2000 -\n", len(lives)+2, 1, api.ErrOrder)
	expectFault(t, s+"398 399 2000 -", len(lives)+2, 15, api.ErrShort)
}

// P14.2: each line but the first is a life: so many lines, so many lives, and each line alone tells its own.
func TestEachLineIsALife(t *testing.T) {
	r := rand.New(rand.NewSource(4))
	for range 200 {
		n := someN(r)
		lives := someLives(r, n, r.Intn(40))
		s, _ := Print(told(n, lives...))
		lines := strings.SplitAfter(s, "\n")
		if len(lines) != len(lives)+2 || lines[len(lines)-1] != "" {
			t.Fatalf("%d lives, and the text %q", len(lives), s)
		}
		for i, l := range lives {
			expectBoth(t, told(n, l), lines[0]+lines[i+1])
			expectParse(t, strings.Join(lines[:i+2], ""), told(n, lives[:i+1]...), api.Place{}, api.OK)
		}
	}
}

// P14.1: what is handed in stays as it is, and what is behind it isn't looked at.
func TestHandedInStays(t *testing.T) {
	all := append(some().Events, turn(-1, false, 3, 3), turn(math.MinInt64, true, 9, 1))
	was := slices.Clone(all)
	expectPrint(t, api.History{N: 5, Events: all[:len(all)-2]}, text, api.OK)
	expectPrint(t, api.History{N: 5, Events: all}, "", api.ErrLimit)
	if !slices.Equal(all, was) {
		t.Errorf("what was handed in is now %v", all)
	}
}

// P14.1: what is answered is new memory, and the same again tells the same.
func TestAnswersAreNewMemory(t *testing.T) {
	first, _, _ := Parse(text)
	second, _, _ := Parse(text)
	for i := range first.Events {
		first.Events[i] = turn(77, false, 8, 9)
	}
	_ = append(first.Events, turn(78, false, 8, 9))
	if !history.Same(second, some()) {
		t.Errorf("an answer changed with another one: %v", second)
	}
	expectParse(t, text, some(), api.Place{}, api.OK)
	h := some()
	s, _ := Print(h)
	for i := range h.Events {
		h.Events[i] = turn(77, false, 8, 9)
	}
	if s != text {
		t.Errorf("the text changed with its history: %q", s)
	}
}
