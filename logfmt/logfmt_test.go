package logfmt

import (
	"fmt"
	"math"
	"math/big"
	"math/rand"
	"slices"
	"strings"
	"testing"

	"archipelago/api"
	"archipelago/history"
)

// last is the greatest vertex that may be.
const last = uint32(api.MaxN - 1)

// text is the log of some.
const text = "log 5\n0 + 0 1\n0 + 1 2\n0 + 3 4\n3 - 0 1\n3 + 2 3\n5 + 0 1\n9 - 1 2\n9 - 2 3\n10 + 1 2\n12 - 0 1\n"

// came tells the event by which the edge of u and v comes.
func came(t int64, u, v uint32) api.Event {
	return api.Event{T: t, Edge: api.Edge{U: u, V: v}, Add: true}
}

// went tells the event by which it goes.
func went(t int64, u, v uint32) api.Event {
	return api.Event{T: t, Edge: api.Edge{U: u, V: v}}
}

// of tells the history of n vertices with these events.
func of(n uint64, l ...api.Event) api.History {
	return api.History{N: n, Events: l}
}

// some is a Right history of five vertices: several events at one time, an edge that comes again, one that never goes.
func some() api.History {
	return of(5, came(0, 0, 1), came(0, 1, 2), came(0, 3, 4), went(3, 0, 1), came(3, 2, 3), came(5, 0, 1), went(9, 1, 2), went(9, 2, 3), came(10, 1, 2), went(12, 0, 1))
}

// written is the log of h by the words of P13.1, whether h is Right or not.
func written(h api.History) string {
	s := fmt.Sprintf("log %d\n", h.N)
	for _, e := range h.Events {
		sign := "-"
		if e.Add {
			sign = "+"
		}
		s += fmt.Sprintf("%d %s %d %d\n", e.T, sign, e.Edge.U, e.Edge.V)
	}
	return s
}

// wrong is history.Check's error of h.
func wrong(h api.History) api.Errno {
	_, e := history.Check(h)
	return e
}

// model reads a text by the words of P13.1, byte by byte: so many of them are behind it, ahead of the first error.
type model struct {
	s   string
	at  int
	err api.Errno
}

// place counts from the beginning of the text.
func (m *model) place() api.Place {
	lines := strings.Split(m.s[:m.at], "\n")
	return api.Place{Line: len(lines), Col: len(lines[len(lines)-1]) + 1}
}

// one asks for one of the bytes of choice, and tells which.
func (m *model) one(choice string) byte {
	switch {
	case m.err != 0:
		return 0
	case m.at == len(m.s):
		m.err = api.ErrShort
		return 0
	case !strings.Contains(choice, m.s[m.at:m.at+1]):
		m.err = api.ErrForm
		return 0
	}
	m.at++
	return m.s[m.at-1]
}

// word asks for w, which stands there whole or not at all.
func (m *model) word(w string) {
	at := m.at
	for i := range len(w) {
		m.one(w[i : i+1])
	}
	if m.err != 0 {
		m.at = at
	}
}

// number asks for a number of up to most.
func (m *model) number(most string) int64 {
	rest := m.s[m.at:]
	run := rest[:len(rest)-len(strings.TrimLeft(rest, "0123456789"))]
	switch {
	case m.err != 0:
		return 0
	case rest == "":
		m.err = api.ErrShort
		return 0
	case run == "", run != "0" && run[0] == '0':
		m.err = api.ErrForm
		return 0
	}
	n, _ := new(big.Int).SetString(run, 10)
	bound, _ := new(big.Int).SetString(most, 10)
	if n.Cmp(bound) > 0 {
		m.err = api.ErrLong
		return 0
	}
	m.at += len(run)
	return n.Int64()
}

// modelParse is Parse: each line is read, and held against the lines ahead of it as soon as it is whole.
func modelParse(s string) (api.History, api.Place, api.Errno) {
	m := &model{s: s}
	m.word("log")
	m.one(" ")
	h := api.History{N: uint64(m.number("4294967296"))}
	m.one("\n")
	for m.err == 0 && m.at < len(s) {
		begin := m.place()
		e := api.Event{T: m.number("4611686018427387903")}
		m.one(" ")
		e.Add = m.one("+-") == '+'
		m.one(" ")
		e.Edge.U = uint32(m.number("4294967295"))
		m.one(" ")
		e.Edge.V = uint32(m.number("4294967295"))
		m.one("\n")
		if m.err != 0 {
			break
		}
		h.Events = append(h.Events, e)
		if err := wrong(h); err != 0 {
			return api.History{}, begin, err
		}
	}
	if m.err != 0 {
		return api.History{}, m.place(), m.err
	}
	return h, api.Place{}, api.OK
}

// expectPrint holds Print of h against what it should tell.
func expectPrint(t *testing.T, h api.History, want string, e api.Errno) {
	t.Helper()
	if s, err := Print(h); s != want || err != e {
		t.Errorf("Print(%v) = %q, %d; want %q, %d", h, s, err, want, e)
	}
}

// expectParse holds Parse of s against what it should tell.
func expectParse(t *testing.T, s string, want api.History, at api.Place, e api.Errno) {
	t.Helper()
	if h, place, err := Parse(s); !history.Same(h, want) || place != at || err != e {
		t.Errorf("Parse(%q) = %v, %v, %d; want %v, %v, %d", s, h, place, err, want, at, e)
	}
}

// expectFault has Parse of s tell the error e at a line and a column, and no history.
func expectFault(t *testing.T, s string, line, col int, e api.Errno) {
	t.Helper()
	expectParse(t, s, api.History{}, api.Place{Line: line, Col: col}, e)
}

// expectModel holds Parse of s against the model, and what it reads against its text; it tells the error.
func expectModel(t *testing.T, s string) api.Errno {
	t.Helper()
	h, at, e := modelParse(s)
	expectParse(t, s, h, at, e)
	if e == api.OK {
		expectPrint(t, h, s, api.OK)
	}
	return e
}

// someRight tells a Right history of n vertices and at most so many events.
func someRight(r *rand.Rand, n uint64, count int) api.History {
	h := api.History{N: n}
	there := map[api.Edge]bool{}
	var e api.Event
	for range count {
		next := e
		if r.Intn(3) == 0 {
			next.T += r.Int63n(1 << r.Intn(40))
		}
		next.Edge.U, next.Edge.V = uint32(r.Uint64()%n), uint32(r.Uint64()%n)
		if len(h.Events) > 0 && r.Intn(2) == 0 {
			next.Edge = h.Events[r.Intn(len(h.Events))].Edge
		}
		next.Add = !there[next.Edge]
		h.Events = append(h.Events, next)
		if wrong(h) != api.OK {
			h.Events = h.Events[:len(h.Events)-1]
			continue
		}
		there[next.Edge] = next.Add
		e = next
	}
	return h
}

// someN tells how many vertices there are: few or many.
func someN(r *rand.Rand) uint64 {
	return []uint64{2, 3, 5, 9, 100, api.MaxN - 1, api.MaxN}[r.Intn(7)]
}

// P13.1: Print is "log" and N, then a line of each event; Parse is the way back.
func TestOfRightOnes(t *testing.T) {
	for _, x := range []struct {
		h    api.History
		want string
	}{
		{api.History{}, "log 0\n"},
		{api.History{Events: []api.Event{}}, "log 0\n"},
		{of(1), "log 1\n"},
		{of(10), "log 10\n"},
		{of(api.MaxN), "log 4294967296\n"},
		{of(2, came(0, 0, 1)), "log 2\n0 + 0 1\n"},
		{of(2, came(7, 0, 1), went(100, 0, 1)), "log 2\n7 + 0 1\n100 - 0 1\n"},
		{of(api.MaxN, came(0, 0, last), came(10, 20, 30), went(api.MaxTime-1, 0, last), came(api.MaxTime, last-1, last)), "log 4294967296\n0 + 0 4294967295\n10 + 20 30\n4611686018427387902 - 0 4294967295\n4611686018427387903 + 4294967294 4294967295\n"},
		{some(), text},
	} {
		expectPrint(t, x.h, x.want, api.OK)
		expectParse(t, x.want, x.h, api.Place{}, api.OK)
	}
}

// P13.1: Print of a history that isn't Right tells history.Check's error, the first one, and no text.
func TestPrintOfWrongOnes(t *testing.T) {
	for _, x := range []struct {
		h api.History
		e api.Errno
	}{
		{of(api.MaxN + 1), api.ErrLimit},
		{of(math.MaxUint64), api.ErrLimit},
		{of(api.MaxN+1, came(0, 1, 0)), api.ErrLimit},
		{of(2, came(-1, 0, 1)), api.ErrLimit},
		{of(2, came(math.MinInt64, 0, 1)), api.ErrLimit},
		{of(2, came(api.MaxTime+1, 0, 1)), api.ErrLimit},
		{of(2, came(math.MaxInt64, 0, 1)), api.ErrLimit},
		{of(2, came(-1, 1, 0)), api.ErrLimit},
		{of(0, came(0, 0, 0)), api.ErrVertex},
		{of(1, came(0, 0, 1)), api.ErrVertex},
		{of(2, came(0, 1, 0)), api.ErrVertex},
		{of(2, came(0, 1, 1)), api.ErrVertex},
		{of(api.MaxN, came(0, last, last)), api.ErrVertex},
		{of(api.MaxN-1, came(0, 0, last)), api.ErrVertex},
		{of(3, came(4, 0, 1), came(3, 0, 2)), api.ErrOrder},
		{of(3, came(4, 0, 2), came(4, 0, 1)), api.ErrOrder},
		{of(3, came(4, 0, 1), went(4, 0, 1)), api.ErrOrder},
		{of(3, went(0, 0, 1)), api.ErrEdge},
		{of(3, came(4, 0, 1), came(5, 0, 1)), api.ErrEdge},
		{of(3, came(4, 0, 1), went(5, 0, 1), went(6, 0, 1)), api.ErrEdge},
		{of(3, came(4, 0, 1), went(5, 0, 2), came(3, 0, 2), came(-1, 0, 1)), api.ErrEdge},
		{of(3, came(4, 0, 1), came(3, 0, 2), came(-1, 0, 1), went(5, 0, 2)), api.ErrOrder},
	} {
		expectPrint(t, x.h, "", x.e)
	}
}

// P13.1: what is missing, or stands there instead, is told where it was asked for.
func TestParseTellsWhere(t *testing.T) {
	for _, x := range []struct {
		s         string
		line, col int
		e         api.Errno
	}{
		{"", 1, 1, api.ErrShort},
		{"l", 1, 1, api.ErrShort},
		{"lo", 1, 1, api.ErrShort},
		{"lag 1\n", 1, 1, api.ErrForm},
		{"Log 1\n", 1, 1, api.ErrForm},
		{" log 1\n", 1, 1, api.ErrForm},
		{"\nlog 1\n", 1, 1, api.ErrForm},
		{"table 1\n", 1, 1, api.ErrForm},
		{"log", 1, 4, api.ErrShort},
		{"log1\n", 1, 4, api.ErrForm},
		{"logs 1\n", 1, 4, api.ErrForm},
		{"log\t1\n", 1, 4, api.ErrForm},
		{"log\n", 1, 4, api.ErrForm},
		{"log ", 1, 5, api.ErrShort},
		{"log \n", 1, 5, api.ErrForm},
		{"log  1\n", 1, 5, api.ErrForm},
		{"log +1\n", 1, 5, api.ErrForm},
		{"log -1\n", 1, 5, api.ErrForm},
		{"log x\n", 1, 5, api.ErrForm},
		{"log 00\n", 1, 5, api.ErrForm},
		{"log 01\n", 1, 5, api.ErrForm},
		{"log 01", 1, 5, api.ErrForm},
		{"log 4294967297\n", 1, 5, api.ErrLong},
		{"log 4294967297", 1, 5, api.ErrLong},
		{"log 18446744073709551616\n", 1, 5, api.ErrLong},
		{"log 18446744073709551617x", 1, 5, api.ErrLong},
		{"log 1", 1, 6, api.ErrShort},
		{"log 1 \n", 1, 6, api.ErrForm},
		{"log 1\r\n", 1, 6, api.ErrForm},
		{"log 1.0\n", 1, 6, api.ErrForm},
		{"log 1x", 1, 6, api.ErrForm},
		{"log 4294967296", 1, 15, api.ErrShort},
		{"log 9\n\n", 2, 1, api.ErrForm},
		{"log 9\n ", 2, 1, api.ErrForm},
		{"log 9\nlog 9\n", 2, 1, api.ErrForm},
		{"log 9\n+ 0 1\n", 2, 1, api.ErrForm},
		{"log 9\n-1 + 0 1\n", 2, 1, api.ErrForm},
		{"log 9\n00 + 0 1\n", 2, 1, api.ErrForm},
		{"log 9\n07 + 0 1\n", 2, 1, api.ErrForm},
		{"log 9\n4611686018427387904 + 0 1\n", 2, 1, api.ErrLong},
		{"log 9\n9223372036854775808 + 0 1\n", 2, 1, api.ErrLong},
		{"log 9\n18446744073709551616 + 0 1\n", 2, 1, api.ErrLong},
		{"log 9\n7", 2, 2, api.ErrShort},
		{"log 9\n7\n", 2, 2, api.ErrForm},
		{"log 9\n7+ 0 1\n", 2, 2, api.ErrForm},
		{"log 9\n7 ", 2, 3, api.ErrShort},
		{"log 9\n7 \n", 2, 3, api.ErrForm},
		{"log 9\n7  + 0 1\n", 2, 3, api.ErrForm},
		{"log 9\n7 * 0 1\n", 2, 3, api.ErrForm},
		{"log 9\n7 \x00 0 1\n", 2, 3, api.ErrForm},
		{"log 9\n7 0 1\n", 2, 3, api.ErrForm},
		{"log 9\n7 +", 2, 4, api.ErrShort},
		{"log 9\n7 -", 2, 4, api.ErrShort},
		{"log 9\n7 +0 1\n", 2, 4, api.ErrForm},
		{"log 9\n7 -0 1\n", 2, 4, api.ErrForm},
		{"log 9\n7 ++ 0 1\n", 2, 4, api.ErrForm},
		{"log 9\n7 +- 0 1\n", 2, 4, api.ErrForm},
		{"log 9\n7 -+ 0 1\n", 2, 4, api.ErrForm},
		{"log 9\n7 + ", 2, 5, api.ErrShort},
		{"log 9\n7 +  0 1\n", 2, 5, api.ErrForm},
		{"log 9\n7 + x 1\n", 2, 5, api.ErrForm},
		{"log 9\n7 + 00 1\n", 2, 5, api.ErrForm},
		{"log 9\n7 + 4294967296 1\n", 2, 5, api.ErrLong},
		{"log 9\n7 + 18446744073709551616 1\n", 2, 5, api.ErrLong},
		{"log 9\n7 + 0", 2, 6, api.ErrShort},
		{"log 9\n7 + 0\n", 2, 6, api.ErrForm},
		{"log 9\n7 + 0-1\n", 2, 6, api.ErrForm},
		{"log 9\n7 + 0 ", 2, 7, api.ErrShort},
		{"log 9\n7 + 0 \n", 2, 7, api.ErrForm},
		{"log 9\n7 + 0  1\n", 2, 7, api.ErrForm},
		{"log 9\n7 + 0 01\n", 2, 7, api.ErrForm},
		{"log 9\n7 + 0 4294967296\n", 2, 7, api.ErrLong},
		{"log 9\n7 + 0 18446744073709551616\n", 2, 7, api.ErrLong},
		{"log 9\n7 + 0 1", 2, 8, api.ErrShort},
		{"log 9\n7 + 0 1 ", 2, 8, api.ErrForm},
		{"log 9\n7 + 0 1 \n", 2, 8, api.ErrForm},
		{"log 9\n7 + 0 1\r\n", 2, 8, api.ErrForm},
		{"log 9\n7 + 0 1\x00", 2, 8, api.ErrForm},
		{text + "\n", 12, 1, api.ErrForm},
		{text + " ", 12, 1, api.ErrForm},
		{text + "13", 12, 3, api.ErrShort},
		{text + "13 + 10 1", 12, 10, api.ErrShort},
		{text + "13 + 0 1\n14 - 0 1 1\n", 13, 9, api.ErrForm},
		{text + "13 + 0 1\n014", 13, 1, api.ErrForm},
	} {
		expectFault(t, x.s, x.line, x.col, x.e)
	}
}

// P13.1: numbers up to their bounds: the scanner takes them, whatever chapter 9 says of the line.
func TestParseOfGreatestNumbers(t *testing.T) {
	expectParse(t, "log 4294967296\n", of(api.MaxN), api.Place{}, api.OK)
	expectParse(t, "log 4294967296\n4611686018427387903 + 4294967294 4294967295\n", of(api.MaxN, came(api.MaxTime, last-1, last)), api.Place{}, api.OK)
	expectFault(t, "log 4294967296\n4611686018427387903 + 4294967295 4294967295\n", 2, 1, api.ErrVertex)
	expectFault(t, "log 4294967296\n4611686018427387903 + 4294967295 4294967296\n", 2, 34, api.ErrLong)
	expectFault(t, "log 4294967296\n4611686018427387903 + 4294967296 4294967295\n", 2, 23, api.ErrLong)
	expectFault(t, "log 4294967295\n0 + 0 4294967295\n", 2, 1, api.ErrVertex)
}

// P13.1: where a line is whole, and the events up to it aren't Right, that is told at its column 1, whatever stands behind it.
func TestParseOfWholeLines(t *testing.T) {
	for _, x := range []struct {
		lines string
		at    int
		e     api.Errno
	}{
		{"log 0\n0 + 0 0\n", 2, api.ErrVertex},
		{"log 1\n0 + 0 1\n", 2, api.ErrVertex},
		{"log 2\n0 + 1 0\n", 2, api.ErrVertex},
		{"log 2\n0 - 1 1\n", 2, api.ErrVertex},
		{"log 2\n0 - 0 1\n", 2, api.ErrEdge},
		{"log 2\n0 + 0 1\n0 - 0 1\n", 3, api.ErrOrder},
		{"log 2\n0 + 0 1\n0 + 0 1\n", 3, api.ErrOrder},
		{"log 2\n1 + 0 1\n0 - 0 2\n", 3, api.ErrVertex},
		{"log 2\n1 + 0 1\n0 - 0 1\n", 3, api.ErrOrder},
		{"log 2\n0 + 0 1\n10 + 0 1\n", 3, api.ErrEdge},
		{"log 3\n0 + 0 2\n0 + 0 1\n", 3, api.ErrOrder},
		{"log 3\n0 + 1 2\n0 + 0 2\n", 3, api.ErrOrder},
		{"log 3\n9 + 0 1\n10 - 0 1\n11 - 0 1\n", 4, api.ErrEdge},
		{text + "12 + 0 1\n", 12, api.ErrOrder},
		{text + "13 + 1 2\n", 12, api.ErrEdge},
		{text + "13 - 0 1\n", 12, api.ErrEdge},
		{text + "13 + 4 5\n", 12, api.ErrVertex},
	} {
		for _, behind := range []string{"", "x", "\n", "99", "99 + 9 9", "99 + 0 1\n", "0 - 9 9\n", "4611686018427387904 ", "log 2\n"} {
			expectFault(t, x.lines+behind, x.at, 1, x.e)
		}
		// As long as the line isn't whole, it is what the scanner stumbles on that is told.
		open := x.lines[:len(x.lines)-1]
		begin := strings.LastIndexByte(open, '\n') + 1
		expectFault(t, open, x.at, len(open)-begin+1, api.ErrShort)
		expectFault(t, open+" \n", x.at, len(open)-begin+1, api.ErrForm)
		number := strings.LastIndexByte(open, ' ') + 1
		expectFault(t, open[:number]+"4294967296\n", x.at, number-begin+1, api.ErrLong)
	}
}

// P13.1: each beginning of a text, and each text with one byte left out, put in, or changed.
func TestParseOfDamagedBytes(t *testing.T) {
	told := map[api.Errno]int{}
	for _, s := range []string{text, "log 2\n0 + 0 1\n", "log 10\n", "log 4294967296\n0 + 0 4294967295\n4611686018427387903 - 0 4294967295\n"} {
		for i := range len(s) + 1 {
			told[expectModel(t, s[:i])]++
			for b := range 256 {
				told[expectModel(t, s[:i]+string([]byte{byte(b)})+s[i:])]++
				if i < len(s) {
					told[expectModel(t, s[:i]+string([]byte{byte(b)})+s[i+1:])]++
				}
			}
			if i < len(s) {
				told[expectModel(t, s[:i]+s[i+1:])]++
			}
		}
	}
	for _, e := range []api.Errno{api.OK, api.ErrShort, api.ErrForm, api.ErrLong, api.ErrVertex, api.ErrOrder, api.ErrEdge} {
		if told[e] == 0 {
			t.Errorf("none of them has %d", e)
		}
	}
}

// P13.1: all short runs of bytes of the kinds that matter, behind beginnings of all lengths.
func TestParseOfAllShortOnes(t *testing.T) {
	const bytes = "012 +-\nx"
	for _, begin := range []string{"", "log", "log ", "log 2", "log 2\n", "log 2\n0", "log 2\n0 ", "log 2\n0 +", "log 2\n0 + 0", "log 2\n0 + 0 ", "log 2\n0 + 0 1", "log 2\n0 + 0 1\n", "log 2\n0 + 0 1\n1 - "} {
		runs := []string{""}
		for i := 0; i < len(runs); i++ {
			expectModel(t, begin+runs[i])
			for _, b := range []byte(bytes) {
				if len(runs[i]) < 4 {
					runs = append(runs, runs[i]+string(b))
				}
			}
		}
	}
}

// P13.1: all histories of up to three events out of a few: told as the chapter's words have it, both ways.
func TestOfAllShortHistories(t *testing.T) {
	var all []api.Event
	for _, at := range []int64{0, 1, api.MaxTime} {
		for _, e := range []api.Edge{{U: 0, V: 1}, {U: 0, V: 2}, {U: 1, V: 2}, {U: 1, V: 1}, {U: 1, V: 3}} {
			all = append(all, api.Event{T: at, Edge: e}, api.Event{T: at, Edge: e, Add: true})
		}
	}
	check := func(l ...api.Event) {
		s := written(of(3, l...))
		if e := expectModel(t, s); e != api.OK {
			expectPrint(t, of(3, l...), "", e)
		}
	}
	for _, a := range all {
		check(a)
		for _, b := range all {
			check(a, b)
			for _, c := range all {
				check(a, b, c)
			}
		}
	}
}

// P13.1: longer Right histories, there and back.
func TestRightOnesAtRandom(t *testing.T) {
	r := rand.New(rand.NewSource(1))
	for range 1000 {
		h := someRight(r, someN(r), r.Intn(150))
		s := written(h)
		expectPrint(t, h, s, api.OK)
		expectParse(t, s, h, api.Place{}, api.OK)
	}
}

// P13.1: longer histories of which an event is changed, or stands elsewhere, or is missing, or is there twice.
func TestWrongOnesAtRandom(t *testing.T) {
	r := rand.New(rand.NewSource(2))
	for range 2000 {
		h := someRight(r, someN(r), 2+r.Intn(60))
		if len(h.Events) == 0 {
			continue
		}
		i, j := r.Intn(len(h.Events)), r.Intn(len(h.Events))
		e := &h.Events[i]
		switch r.Intn(7) {
		case 0:
			e.T = max(0, e.T+int64(r.Intn(5))-2)
		case 1:
			e.Edge.U += uint32(r.Intn(5)) - 2
		case 2:
			e.Edge.V += uint32(r.Intn(5)) - 2
		case 3:
			e.Add = !e.Add
		case 4:
			h.Events[i], h.Events[j] = h.Events[j], h.Events[i]
		case 5:
			*e = h.Events[j]
		case 6:
			h.Events = slices.Delete(h.Events, i, i+1)
		}
		expectModel(t, written(h))
		if e := wrong(h); e != api.OK {
			expectPrint(t, h, "", e)
		}
	}
}

// P13.1: longer texts of which several bytes are changed, so that several errors apply: the first is told.
func TestParseAtRandom(t *testing.T) {
	const bytes = "0123456789  +-\n\nlogx\r\x00\xff"
	r := rand.New(rand.NewSource(3))
	for range 5000 {
		s := []byte(written(someRight(r, someN(r), r.Intn(30))))
		for range 1 + r.Intn(4) {
			s[r.Intn(len(s))] = bytes[r.Intn(len(bytes))]
		}
		expectModel(t, string(s))
	}
	for range 5000 {
		s := make([]byte, r.Intn(40))
		for i := range s {
			s[i] = bytes[r.Intn(len(bytes))]
		}
		expectModel(t, string(s))
		expectModel(t, "log 3\n"+string(s))
	}
}

// P13.1: beside an error there is no history, and beside a history no place.
func TestBesideAnError(t *testing.T) {
	for _, s := range []string{"log 7", "log 7\n0 + 0 1", "log 7\n0 + 0 1\n0 + 0 1\n", "log 7\n0 + 0 9\n"} {
		if h, at, e := Parse(s); h.N != 0 || len(h.Events) != 0 || at == (api.Place{}) || e == api.OK {
			t.Errorf("Parse(%q) = %v, %v, %d", s, h, at, e)
		}
	}
	if _, at, e := Parse(text); at != (api.Place{}) || e != api.OK {
		t.Errorf("Parse(text): %v, %d", at, e)
	}
}

// P13.1: a history of many events, there and back, and a fault in its last line.
func TestOfManyEvents(t *testing.T) {
	const n = 400
	h := api.History{N: n}
	for at := range int64(2) {
		for u := range uint32(n) {
			for v := u + 1; v < n; v++ {
				h.Events = append(h.Events, api.Event{T: at, Edge: api.Edge{U: u, V: v}, Add: at == 0})
			}
		}
	}
	s, e := Print(h)
	if e != api.OK || strings.Count(s, "\n") != len(h.Events)+1 {
		t.Fatalf("Print of many: %d bytes, %d", len(s), e)
	}
	for range 2 {
		if got, at, e := Parse(s); !history.Same(got, h) || at != (api.Place{}) || e != api.OK {
			t.Fatalf("Parse of many: %d events, %v, %d", len(got.Events), at, e)
		}
		if again, e := Print(h); again != s || e != api.OK {
			t.Fatalf("Print of many again: %d bytes, %d", len(again), e)
		}
	}
	expectFault(t, s+"2 - 0 1\n", len(h.Events)+2, 1, api.ErrEdge)
	expectFault(t, s+"2 + 0 1", len(h.Events)+2, 8, api.ErrShort)
}

// P13.2: each line but the first is an event: so many lines, so many events, and each line alone tells its own.
func TestEachLineIsAnEvent(t *testing.T) {
	r := rand.New(rand.NewSource(4))
	for range 200 {
		h := someRight(r, someN(r), r.Intn(80))
		s, _ := Print(h)
		lines := strings.SplitAfter(s, "\n")
		if len(lines) != len(h.Events)+2 || lines[len(lines)-1] != "" {
			t.Fatalf("%d events, and the text %q", len(h.Events), s)
		}
		for i, e := range h.Events {
			one := of(h.N, e)
			if e.Add {
				expectPrint(t, one, lines[0]+lines[i+1], api.OK)
			}
			expectParse(t, strings.Join(lines[:i+2], ""), of(h.N, h.Events[:i+1]...), api.Place{}, api.OK)
		}
	}
}

// P13.1: what is handed in stays as it is, and what is behind it isn't looked at.
func TestHandedInStays(t *testing.T) {
	all := append(some().Events, went(-1, 3, 3), came(math.MinInt64, 9, 1))
	was := slices.Clone(all)
	expectPrint(t, api.History{N: 5, Events: all[:len(all)-2]}, text, api.OK)
	expectPrint(t, api.History{N: 5, Events: all}, "", api.ErrLimit)
	if !slices.Equal(all, was) {
		t.Errorf("what was handed in is now %v", all)
	}
}

// P13.1: what is answered is new memory, and the same again tells the same.
func TestAnswersAreNewMemory(t *testing.T) {
	first, _, _ := Parse(text)
	second, _, _ := Parse(text)
	for i := range first.Events {
		first.Events[i] = went(77, 8, 9)
	}
	_ = append(first.Events, went(78, 8, 9))
	if !history.Same(second, some()) {
		t.Errorf("an answer changed with another one: %v", second)
	}
	expectParse(t, text, some(), api.Place{}, api.OK)
	h := some()
	s, _ := Print(h)
	for i := range h.Events {
		h.Events[i] = went(77, 8, 9)
	}
	if s != text {
		t.Errorf("the text changed with its history: %q", s)
	}
}
