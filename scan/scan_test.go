package scan

import (
	"math"
	"math/big"
	"math/rand"
	"slices"
	"strings"
	"testing"

	"archipelago/api"
)

// mosts are bounds at and around the ends of what a number may be.
var mosts = []uint64{0, 1, 7, 8, 9, 10, 11, 19, 89, 90, 99, 100, 1<<32 - 1, 1 << 32, api.MaxTime, 1<<63 - 1, 1 << 63, math.MaxUint64 - 6, math.MaxUint64 - 5, math.MaxUint64 - 1, math.MaxUint64}

// errnos are errors of all kinds, such that api doesn't name among them.
var errnos = []api.Errno{api.ErrShort, api.ErrForm, api.ErrLong, api.ErrOrder, api.ErrVertex, api.ErrWord, api.ErrFormat, 1, -1, math.MaxInt, math.MinInt}

// told is all that a call and the scanner behind it tell.
type told struct {
	n     uint64
	ok    bool
	next  byte
	is    bool
	place api.Place
	err   api.Errno
}

// model is a scanner by the words of P12.1 and P12.2: so many bytes of the text are behind it.
type model struct {
	text string
	at   int
	err  api.Errno
}

// place counts from the beginning of the text.
func (m *model) place() api.Place {
	lines := strings.Split(m.text[:m.at], "\n")
	return api.Place{Line: len(lines), Col: len(lines[len(lines)-1]) + 1}
}

// tells is what the model and a call of it tell.
func (m *model) tells(n uint64, ok bool) told {
	x := told{n: n, ok: ok, place: m.place(), err: m.err}
	if m.err == 0 && m.at < len(m.text) {
		x.next, x.is = m.text[m.at], true
	}
	return x
}

func (m *model) fail(e api.Errno) told {
	if m.err == 0 {
		m.err = e
	}
	return m.tells(0, false)
}

func (m *model) number(most uint64) told {
	rest := m.text[m.at:]
	run := rest[:len(rest)-len(strings.TrimLeft(rest, "0123456789"))]
	switch {
	case m.err != 0:
		return m.tells(0, false)
	case rest == "":
		return m.fail(api.ErrShort)
	case run == "", run != "0" && run[0] == '0':
		return m.fail(api.ErrForm)
	}
	n, _ := new(big.Int).SetString(run, 10)
	if n.Cmp(new(big.Int).SetUint64(most)) > 0 {
		return m.fail(api.ErrLong)
	}
	m.at += len(run)
	return m.tells(n.Uint64(), false)
}

func (m *model) word(w string) told {
	if m.err != 0 {
		return m.tells(0, false)
	}
	for i := range len(w) {
		if m.at+i == len(m.text) {
			return m.fail(api.ErrShort)
		}
		if m.text[m.at+i] != w[i] {
			return m.fail(api.ErrForm)
		}
	}
	m.at += len(w)
	return m.tells(0, true)
}

// tells is what a scanner and a call of it tell.
func tells(c *Scanner, n uint64, ok bool) told {
	x := told{n: n, ok: ok, place: c.Place(), err: c.Err()}
	x.next, x.is = c.Next()
	return x
}

// expect holds a scanner against what it should tell; c.Next, which tells asks, should change nothing.
func expect(t *testing.T, c *Scanner, what string, got, want told) {
	t.Helper()
	if got != want {
		t.Errorf("%q: %+v; want %+v", what, got, want)
	}
	if again := tells(c, got.n, got.ok); again != got {
		t.Errorf("%q: %+v, and asked again %+v", what, got, again)
	}
}

// both has the scanner and the model do the same.
func both(t *testing.T, c *Scanner, m *model, kind int, n uint64, w string, e api.Errno) {
	t.Helper()
	rest := m.text[m.at:]
	switch kind {
	case 0:
		want := m.number(n)
		expect(t, c, "Number of "+rest, tells(c, c.Number(n), false), want)
	case 1:
		want := m.word(w)
		expect(t, c, "Word "+w+" of "+rest, tells(c, 0, c.Word(w)), want)
	case 2:
		b := byte(n)
		want := m.word(string([]byte{b}))
		expect(t, c, "Byte "+string([]byte{b})+" of "+rest, tells(c, 0, c.Byte(b)), want)
	case 3:
		want := m.fail(e)
		c.Fail(e)
		expect(t, c, "Fail at "+rest, tells(c, 0, false), want)
	}
}

// texts tells all texts of up to most bytes out of some.
func texts(bytes string, most int) []string {
	all := []string{""}
	for from, size := 0, 0; size < most; size++ {
		end := len(all)
		for _, s := range all[from:end] {
			for i := range len(bytes) {
				all = append(all, s+bytes[i:i+1])
			}
		}
		from = end
	}
	return all
}

// P12.1: the document's example.
func TestExample(t *testing.T) {
	c := New("7 ")
	expect(t, c, "Number", tells(c, c.Number(9), false), told{n: 7, next: ' ', is: true, place: api.Place{Line: 1, Col: 2}})
}

// P12.1: where a scanner stands at first, and what is there.
func TestNew(t *testing.T) {
	for _, s := range []string{"", "a", "\n", "\n\n", "0", "\x00", "\xff\xfe"} {
		c := New(s)
		want := told{place: api.Place{Line: 1, Col: 1}}
		if s != "" {
			want.next, want.is = s[0], true
		}
		expect(t, c, "New", tells(c, 0, false), want)
	}
}

// P12.1: behind a line feed it is the next line's column 1, behind another byte the next column, whatever byte it is.
func TestPlace(t *testing.T) {
	for b := range 256 {
		c := New("x" + string([]byte{byte(b)}) + "y")
		want := api.Place{Line: 1, Col: 3}
		if b == '\n' {
			want = api.Place{Line: 2, Col: 1}
		}
		if !c.Byte('x') || !c.Byte(byte(b)) || c.Place() != want {
			t.Errorf("behind byte %d: %v; want %v", b, c.Place(), want)
		}
		if !c.Byte('y') || c.Place() != (api.Place{Line: want.Line, Col: want.Col + 1}) {
			t.Errorf("a byte behind byte %d: %v", b, c.Place())
		}
	}
}

// P12.1: a word's bytes lead on as bytes alone do, line feeds anywhere in it.
func TestPlaceBehindWords(t *testing.T) {
	for _, w := range texts("ab\n\r", 5) {
		c := New(w + "z")
		m := model{text: w, at: len(w)}
		if !c.Word(w) || c.Place() != m.place() {
			t.Errorf("behind %q: %v; want %v", w, c.Place(), m.place())
		}
	}
}

// P12.1: numbers, and what isn't one, each at the bounds around it.
func TestNumber(t *testing.T) {
	for _, x := range []struct {
		s    string
		most uint64
		n    uint64
		size int
		e    api.Errno
	}{
		{"0", 0, 0, 1, 0}, {"0", 9, 0, 1, 0}, {"0", math.MaxUint64, 0, 1, 0},
		{"1", 0, 0, 0, api.ErrLong}, {"1", 1, 1, 1, 0}, {"2", 1, 0, 0, api.ErrLong},
		{"9", 9, 9, 1, 0}, {"10", 9, 0, 0, api.ErrLong}, {"10", 10, 10, 2, 0}, {"11", 10, 0, 0, api.ErrLong},
		{"", 9, 0, 0, api.ErrShort}, {"", 0, 0, 0, api.ErrShort},
		{"00", 9, 0, 0, api.ErrForm}, {"000", 9, 0, 0, api.ErrForm}, {"01", 9, 0, 0, api.ErrForm}, {"01", 0, 0, 0, api.ErrForm}, {"0999", 9, 0, 0, api.ErrForm},
		{"099999999999999999999999", 9, 0, 0, api.ErrForm}, {"0 0", 9, 0, 1, 0}, {"0x10", 9, 0, 1, 0}, {"0b1", 9, 0, 1, 0}, {"0o7", 9, 0, 1, 0}, {"0_1", 9, 0, 1, 0},
		{"1_0", 99, 1, 1, 0}, {"1e3", 99, 1, 1, 0}, {"1.5", 99, 1, 1, 0}, {"12\n3", 99, 12, 2, 0}, {"12\x003", 99, 12, 2, 0}, {"12/3", 99, 12, 2, 0}, {"12:3", 99, 12, 2, 0}, {"12٣", 99, 12, 2, 0},
		{"x", 9, 0, 0, api.ErrForm}, {" 1", 9, 0, 0, api.ErrForm}, {"\n1", 9, 0, 0, api.ErrForm}, {"-1", 9, 0, 0, api.ErrForm}, {"+1", 9, 0, 0, api.ErrForm}, {"/1", 9, 0, 0, api.ErrForm}, {":1", 9, 0, 0, api.ErrForm}, {"٣", 9, 0, 0, api.ErrForm}, {"\xb1", 9, 0, 0, api.ErrForm}, {"\x00", 9, 0, 0, api.ErrForm},
		{"4611686018427387903", api.MaxTime, api.MaxTime, 19, 0}, {"4611686018427387904", api.MaxTime, 0, 0, api.ErrLong},
		{"9223372036854775808", math.MaxUint64, 1 << 63, 19, 0}, {"9223372036854775808", 1<<63 - 1, 0, 0, api.ErrLong},
		{"18446744073709551615", math.MaxUint64, math.MaxUint64, 20, 0}, {"18446744073709551615", math.MaxUint64 - 1, 0, 0, api.ErrLong},
		{"18446744073709551616", math.MaxUint64, 0, 0, api.ErrLong}, {"18446744073709551616", 0, 0, 0, api.ErrLong}, {"18446744073709551625", math.MaxUint64, 0, 0, api.ErrLong},
		{"20000000000000000000", math.MaxUint64, 0, 0, api.ErrLong}, {"99999999999999999999", math.MaxUint64, 0, 0, api.ErrLong}, {"184467440737095516150", math.MaxUint64, 0, 0, api.ErrLong}, {"340282366920938463463374607431768211457", math.MaxUint64, 0, 0, api.ErrLong},
		{"1" + strings.Repeat("0", 100000), math.MaxUint64, 0, 0, api.ErrLong},
	} {
		c := New("a\nb" + x.s)
		c.Word("a\nb")
		want := told{n: x.n, place: api.Place{Line: 2, Col: 2 + x.size}, err: x.e}
		if x.e == 0 && x.size < len(x.s) {
			want.next, want.is = x.s[x.size], true
		}
		expect(t, c, "Number of "+x.s, tells(c, c.Number(x.most), false), want)
	}
}

// P12.1: each number that a text may hold is read as it is, at its bound, and not at one below it.
func TestNumberBounds(t *testing.T) {
	r := rand.New(rand.NewSource(121))
	ns := slices.Clone(mosts)
	for range 2000 {
		ns = append(ns, r.Uint64()>>r.Intn(64))
	}
	for _, n := range ns {
		s := new(big.Int).SetUint64(n).String()
		for _, most := range []uint64{n, n + 1, n - 1, math.MaxUint64, r.Uint64()} {
			for _, behind := range []string{"", " ", "x9", "\n0"} {
				both(t, New(s+behind), &model{text: s + behind}, 0, most, "", 0)
			}
		}
	}
}

// P12.1, P12.2: all short texts, at all bounds.
func TestNumberShort(t *testing.T) {
	for _, s := range texts("0189 a\n/:", 4) {
		for _, most := range mosts {
			both(t, New(s), &model{text: s}, 0, most, "", 0)
		}
	}
}

// P12.1, P12.2: all short words of all short texts: they stand there, or the text ends within them, or something else stands there.
func TestWord(t *testing.T) {
	words := texts("ab\n", 4)
	for _, s := range texts("ab\n", 4) {
		for _, w := range words {
			both(t, New(s), &model{text: s}, 1, 0, w, 0)
		}
	}
}

// P12.1, P12.2: words as they are asked for, and those that differ at one byte.
func TestWordKnown(t *testing.T) {
	for _, x := range []struct {
		s, w string
		e    api.Errno
	}{
		{"", "", 0}, {"log", "", 0}, {"log", "log", 0}, {"log 7", "log", 0}, {"lo", "log", api.ErrShort}, {"", "log", api.ErrShort},
		{"lag", "log", api.ErrForm}, {"la", "log", api.ErrForm}, {"xlog", "log", api.ErrForm}, {"Log", "log", api.ErrForm}, {" log", "log", api.ErrForm}, {"lo\n", "log", api.ErrForm},
		{"\xff\xfe", "\xff\xfe", 0}, {"\xff\xfd", "\xff\xfe", api.ErrForm}, {"\xff", "\xff\xfe", api.ErrShort}, {"\x00", "", 0}, {"\x00\x00", "\x00", 0}, {"ö", "\xc3", 0}, {"\xc3", "ö", api.ErrShort}, {"\xff", "\xfe", api.ErrForm}, {"\xff", "\ufffd", api.ErrForm},
	} {
		c := New("\n" + x.s)
		c.Byte('\n')
		want := told{ok: x.e == 0, place: api.Place{Line: 2, Col: 1}, err: x.e}
		if x.e == 0 {
			want.place.Col += len(x.w)
			if len(x.w) < len(x.s) {
				want.next, want.is = x.s[len(x.w)], true
			}
		}
		expect(t, c, "Word "+x.w+" of "+x.s, tells(c, 0, c.Word(x.w)), want)
	}
}

// P12.1, P12.2: each byte asked for where each stands, and at the end.
func TestByte(t *testing.T) {
	for b := range 256 {
		for s := range 256 {
			text := string([]byte{byte(s), 'z'})
			both(t, New(text), &model{text: text}, 2, uint64(b), "", 0)
		}
		both(t, New(""), &model{}, 2, uint64(b), "", 0)
	}
}

// P12.1: Next tells each byte, and stays ahead of it; at the end it tells none, which is no error.
func TestNext(t *testing.T) {
	var all []byte
	for b := range 256 {
		all = append(all, byte(b))
	}
	c := New(string(all))
	for _, b := range all {
		for range 3 {
			if got, ok := c.Next(); got != b || !ok {
				t.Errorf("Next = %d, %v; want %d", got, ok, b)
			}
		}
		c.Byte(b)
	}
	was := c.Place()
	for range 3 {
		if got, ok := c.Next(); got != 0 || ok || c.Err() != api.OK || c.Place() != was {
			t.Errorf("Next at the end = %d, %v; %d, %v", got, ok, c.Err(), c.Place())
		}
	}
	if !c.Word("") || c.Byte(0) || c.Err() != api.ErrShort {
		t.Errorf("behind Next at the end: %d", c.Err())
	}
}

// P12.2: behind an error each call is 0, false, and changes nothing, though it would find what it asks for.
func TestBehindAnError(t *testing.T) {
	for _, x := range []struct {
		name string
		e    api.Errno
		fail func(c *Scanner)
	}{
		{"a number's form", api.ErrForm, func(c *Scanner) { c.Number(9) }},
		{"a word's form", api.ErrForm, func(c *Scanner) { c.Word("x0") }},
		{"a word's end", api.ErrShort, func(c *Scanner) { c.Word("x7\n7x") }},
		{"a byte's form", api.ErrForm, func(c *Scanner) { c.Byte('7') }},
		{"Fail", api.ErrVertex, func(c *Scanner) { c.Fail(api.ErrVertex) }},
	} {
		c := New("\n\nx7\n7")
		c.Word("\n\n")
		x.fail(c)
		want := told{place: api.Place{Line: 3, Col: 1}, err: x.e}
		expect(t, c, x.name, tells(c, 0, false), want)
		for _, w := range []string{"x7\n7", "x", "", "7", "no", "x7\n7x"} {
			expect(t, c, x.name+", then Word "+w, tells(c, 0, c.Word(w)), want)
		}
		for _, b := range []byte{'x', '7', '\n', 0} {
			expect(t, c, x.name+", then Byte", tells(c, 0, c.Byte(b)), want)
		}
		for _, most := range mosts {
			expect(t, c, x.name+", then Number", tells(c, c.Number(most), false), want)
		}
		for _, e := range append(errnos, 0) {
			c.Fail(e)
			expect(t, c, x.name+", then Fail", tells(c, 0, false), want)
		}
	}
}

// P12.2: behind a number that isn't read nothing is, not even its digits.
func TestBehindNumbers(t *testing.T) {
	for s, e := range map[string]api.Errno{"": api.ErrShort, "x": api.ErrForm, "07": api.ErrForm, "00": api.ErrForm, "100": api.ErrLong, "99999999999999999999": api.ErrLong} {
		c := New(s)
		want := told{place: api.Place{Line: 1, Col: 1}, err: e}
		expect(t, c, "Number of "+s, tells(c, c.Number(99), false), want)
		expect(t, c, "Number of "+s+" again", tells(c, c.Number(math.MaxUint64), false), want)
		expect(t, c, "then Word", tells(c, 0, c.Word(s)), want)
		expect(t, c, "then no Word", tells(c, 0, c.Word("")), want)
	}
}

// P12.2: Fail is as if a call had that error; the first one stays, and 0 is none.
func TestFail(t *testing.T) {
	for _, e := range errnos {
		c := New("ab\nc")
		c.Fail(0)
		expect(t, c, "Fail of 0", tells(c, 0, false), told{next: 'a', is: true, place: api.Place{Line: 1, Col: 1}})
		c.Word("ab\n")
		c.Fail(0)
		c.Fail(e)
		want := told{place: api.Place{Line: 2, Col: 1}, err: e}
		expect(t, c, "Fail", tells(c, 0, false), want)
		c.Fail(api.ErrSum)
		c.Fail(0)
		expect(t, c, "Fail again", tells(c, 0, c.Byte('c')), want)
	}
	c := New("")
	c.Fail(api.ErrWord)
	expect(t, c, "Fail at the end", tells(c, 0, false), told{place: api.Place{Line: 1, Col: 1}, err: api.ErrWord})
}

// anyText tells up to most bytes of such as a text is made of, and of others.
func anyText(r *rand.Rand, most int) string {
	parts := []string{"0", "1", "7", "10", "42", "18446744073709551615", "18446744073709551616", " ", "\n", "\r\n", "+", "-", "log", "lo", "\x00", "\xff", "ö"}
	var b strings.Builder
	for range r.Intn(most + 1) {
		b.WriteString(parts[r.Intn(len(parts))])
	}
	return b.String()
}

// P12.1, P12.2: whatever is called one behind another tells just what the model does.
func TestCalls(t *testing.T) {
	r := rand.New(rand.NewSource(122))
	for range 20000 {
		s := anyText(r, 12)
		c, m := New(s), &model{text: s}
		for range r.Intn(16) {
			rest := m.text[m.at:]
			kind, n, w := r.Intn(3), mosts[r.Intn(len(mosts))], anyText(r, 2)
			if r.Intn(4) > 0 && rest != "" { // such as stands there
				w = rest[:r.Intn(len(rest)+1)%7]
				if kind == 2 {
					n = uint64(rest[0])
				}
			}
			if r.Intn(20) == 0 {
				kind = 3
			}
			both(t, c, m, kind, n, w, []api.Errno{0, 0, 0, api.ErrWord, -1}[r.Intn(5)])
		}
	}
}

// P12.3: of a text of many lines, the line and the column of what is wrong in it.
func TestSaysWhere(t *testing.T) {
	const lines = 50
	for bad := range lines {
		for _, x := range []struct {
			line string
			col  int
			e    api.Errno
		}{{"2000 4\n", 1, api.ErrLong}, {"3+4\n", 2, api.ErrForm}, {"5 x\n", 3, api.ErrForm}, {"12 07\n", 4, api.ErrForm}, {"12 34 \n", 6, api.ErrForm}, {"12 34", 6, api.ErrShort}} {
			c := New(strings.Repeat("1 222\n", bad) + x.line)
			for c.Err() == api.OK {
				c.Number(999)
				c.Byte(' ')
				c.Number(999)
				c.Byte('\n')
			}
			if c.Err() != x.e || c.Place() != (api.Place{Line: bad + 1, Col: x.col}) {
				t.Errorf("%q behind %d lines: %d at %v; want %d at column %d", x.line, bad, c.Err(), c.Place(), x.e, x.col)
			}
		}
	}
}

// P12.1, P12.2: scanners of one text know nothing of one another, and the same again tells the same.
func TestScannersApart(t *testing.T) {
	const s = "7\n8"
	a, b := New(s), New(s)
	a.Fail(api.ErrWord)
	expect(t, b, "Number", tells(b, b.Number(9), false), told{n: 7, next: '\n', is: true, place: api.Place{Line: 1, Col: 2}})
	expect(t, a, "Number", tells(a, a.Number(9), false), told{place: api.Place{Line: 1, Col: 1}, err: api.ErrWord})
	b.Byte('\n')
	c := New(s)
	expect(t, c, "New", tells(c, 0, false), told{next: '7', is: true, place: api.Place{Line: 1, Col: 1}})
	expect(t, b, "Number", tells(b, b.Number(9), false), told{n: 8, place: api.Place{Line: 2, Col: 2}})
}

// P12.1: a text of many digits and many lines is read in steps that grow with it alone.
func TestLongText(t *testing.T) {
	const lines = 200000
	c := New(strings.Repeat("4294967296 x\n", lines))
	for range lines {
		if c.Number(1<<32) != 1<<32 || !c.Word(" x\n") {
			t.Fatalf("%d at %v", c.Err(), c.Place())
		}
	}
	if _, ok := c.Next(); ok || c.Place() != (api.Place{Line: lines + 1, Col: 1}) {
		t.Errorf("at the end: %v", c.Place())
	}
}
