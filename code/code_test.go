package code

import (
	"bytes"
	"fmt"
	"math"
	"math/rand"
	"slices"
	"strings"
	"testing"

	"archipelago/bits"
)

// spelt tells the code of each symbol as a text of 0s and 1s, "" of one that has none: by the chapter's words, one behind another.
func spelt(lengths []int) []string {
	var coded []int
	for s, n := range lengths {
		if n > 0 {
			coded = append(coded, s)
		}
	}
	slices.SortStableFunc(coded, func(a, b int) int { return lengths[a] - lengths[b] })
	texts := make([]string, len(lengths))
	last := ""
	for i, s := range coded {
		if i > 0 {
			last = oneMore(last)
		}
		last += strings.Repeat("0", lengths[s]-len(last))
		texts[s] = last
	}
	return texts
}

// oneMore tells the text of the number behind that of text, in as many bits.
func oneMore(text string) string {
	i := strings.LastIndexByte(text, '0')
	return text[:i] + "1" + strings.Repeat("0", len(text)-i-1)
}

// value tells the number that a text of bits is.
func value(text string) int {
	v := 0
	for _, c := range text {
		v = 2*v + int(c-'0')
	}
	return v
}

// packed tells the bytes of a text of bits, the last one filled up with 0.
func packed(text string) []byte {
	b := make([]byte, (len(text)+7)/8)
	for i, c := range text {
		if c == '1' {
			b[i/8] += 1 << (i % 8)
		}
	}
	return b
}

// reading tells a Reader that has just these bits left: 1s that fill up a byte are taken ahead of them.
func reading(t *testing.T, text string) *bits.Reader {
	t.Helper()
	fill := (8 - len(text)%8) % 8
	r := bits.NewReader(packed(strings.Repeat("1", fill) + text))
	r.Take(fill)
	if r.Left() != len(text) {
		t.Fatalf("%d bits instead of %d", r.Left(), len(text))
	}
	return r
}

// read tells which symbol's code begins a text of bits, and how long it is; -1 if none does.
func read(codes []string, text string) (int, int) {
	for s, c := range codes {
		if c != "" && strings.HasPrefix(text, c) {
			return s, len(c)
		}
	}
	return -1, 0
}

// full tells lengths that leave no room for another code: those of a tree that has grown by leaves that part, at places among as many symbols.
func full(r *rand.Rand, leaves, symbols int) []int {
	depths := []int{1, 1}
	for len(depths) < leaves {
		i := r.Intn(len(depths))
		if r.Intn(2) == 0 {
			i = len(depths) - 1 // the one that has just grown: so some codes are long
		}
		if depths[i] < 15 {
			depths[i]++
			depths = append(depths, depths[i])
		}
	}
	lengths := make([]int, symbols)
	for i, s := range r.Perm(symbols)[:leaves] {
		lengths[s] = depths[i]
	}
	return lengths
}

func same(n, length int) []int {
	return slices.Repeat([]int{length}, n)
}

// ladder tells the lengths 1, 2 .. n and one more n.
func ladder(n int) []int {
	var l []int
	for i := 1; i <= n; i++ {
		l = append(l, i)
	}
	return append(l, n)
}

// single tells lengths of which one alone isn't 0, and that is 1.
func single(n, at int) []int {
	l := make([]int, n)
	l[at] = 1
	return l
}

// rights tells lengths that are Right: ordinary ones, the edges, and many of any kind.
func rights() [][]int {
	r := rand.New(rand.NewSource(6))
	l := [][]int{
		{1, 2, 2}, {2, 2, 1}, {1, 1}, {0, 1, 0, 1}, {2, 1, 0, 2}, {3, 3, 2, 3, 3, 2}, {4, 4, 3, 2, 1},
		{1, 3, 3, 3, 3}, {1, 5, 5, 5, 5, 5, 5, 5, 5, 5, 5, 5, 5, 5, 5, 5, 5},
		same(4, 2), same(256, 8), append(same(127, 7), 8, 8), ladder(15), append(make([]int, 240), ladder(15)...),
		{1}, single(2, 0), single(2, 1), single(256, 0), single(256, 255), single(256, 77),
	}
	for range 300 {
		leaves := 2 + r.Intn(1<<(1+r.Intn(8))-1)
		l = append(l, full(r, leaves, leaves+r.Intn(257-leaves)))
	}
	for range 20 {
		l = append(l, full(r, 256, 256))
	}
	return l
}

// wrongs tells lengths that aren't Right.
func wrongs() map[string][]int {
	return map[string][]int{
		"nothing":               nil,
		"an empty list":         {},
		"a 0":                   {0},
		"256 times 0":           make([]int, 256),
		"257 times 0":           make([]int, 257),
		"a single 2":            {2},
		"a single 2 of three":   {0, 2, 0},
		"a single 15":           {15},
		"a single 16":           {16},
		"a single -1":           {-1},
		"half of all by two":    {2, 2},
		"half of all by three":  {0, 2, 3, 3},
		"one code too few":      {1, 2, 3},
		"one 15 too few":        ladder(15)[:15],
		"one 15 too many":       append(ladder(15), 15),
		"three 1":               {1, 1, 1},
		"four 1":                {1, 1, 1, 1},
		"twice all":             append(ladder(15), ladder(15)...),
		"all and a 16":          {1, 1, 16},
		"all and a -1":          {1, 1, -1},
		"a -1 ahead of all":     {-1, 1, 1},
		"a 1 and a 16":          {1, 16},
		"a 1 and a -1":          {-1, 1},
		"two 16 for one 15":     append(ladder(15)[:15], 16, 16),
		"all and a huge one":    {1, 1, math.MaxInt},
		"all and a tiny one":    {1, 1, math.MinInt},
		"all and a 65":          {1, 1, 65},
		"255 times 8":           same(255, 8),
		"257 with all in front": append(same(256, 8), 0),
		"257 with all behind":   append([]int{0}, same(256, 8)...),
		"257 with a single one": single(257, 3),
		"257, all in two":       append(make([]int, 255), 1, 1),
		"257 codes":             append(same(255, 8), 9, 9),
		"a thousand":            append(make([]int, 998), 1, 1),
		"128 times 8":           same(128, 8),
	}
}

// P6.1: the document's example and others, number by number.
func TestCodes(t *testing.T) {
	for _, c := range []struct{ lengths, want []int }{
		{[]int{1, 2, 2}, []int{0, 2, 3}},
		{[]int{2, 2, 1}, []int{2, 3, 0}},
		{[]int{2, 1, 2}, []int{2, 0, 3}},
		{[]int{1, 1}, []int{0, 1}},
		{[]int{0, 1, 0, 1, 0}, []int{0, 0, 0, 1, 0}},
		{[]int{1}, []int{0}},
		{[]int{0, 0, 1, 0}, []int{0, 0, 0, 0}},
		{[]int{2, 2, 2, 2}, []int{0, 1, 2, 3}},
		{[]int{4, 4, 3, 2, 1}, []int{14, 15, 6, 2, 0}},
		{[]int{1, 4, 4, 4, 4, 4, 4, 4, 4}, []int{0, 8, 9, 10, 11, 12, 13, 14, 15}},
		{[]int{3, 3, 3, 3, 3, 2, 4, 4}, []int{2, 3, 4, 5, 6, 0, 14, 15}}, // RFC 1951, 3.2.2
		{ladder(15), []int{0, 2, 6, 14, 30, 62, 126, 254, 510, 1022, 2046, 4094, 8190, 16382, 32766, 32767}},
	} {
		if got := Codes(c.lengths); !slices.Equal(got, c.want) {
			t.Errorf("Codes of %v: %v instead of %v", c.lengths, got, c.want)
		}
	}
}

// P6.1: Right and Codes of many lengths, held against the codes spelt as texts; a code for each symbol of the list, 0 of those that have none.
func TestRightLengths(t *testing.T) {
	for _, l := range rights() {
		if !Right(l) {
			t.Fatalf("Right of %v: false", l)
		}
		codes, texts := Codes(l), spelt(l)
		if len(codes) != len(l) {
			t.Fatalf("Codes of %v: %d of %d", l, len(codes), len(l))
		}
		for s, text := range texts {
			if codes[s] != value(text) {
				t.Errorf("Codes of %v: %d has %d instead of %s", l, s, codes[s], text)
			}
		}
		if tab, ok := New(l); tab == nil || !ok {
			t.Errorf("New of %v: %v", l, ok)
		}
	}
}

// P6.1: lengths that aren't Right have no codes and no table.
func TestWrongLengths(t *testing.T) {
	for what, l := range wrongs() {
		if Right(l) {
			t.Errorf("Right of %s", what)
		}
		if c := Codes(l); len(c) != 0 {
			t.Errorf("Codes of %s: %v", what, c)
		}
		if tab, ok := New(l); tab != nil || ok {
			t.Errorf("New of %s: %v, %v", what, tab, ok)
		}
	}
}

// P6.1: all lists of five lengths 0 to 3 are Right just if the chapter's words say so, and with a wrong one behind them none is.
func TestRightOfAllShortLists(t *testing.T) {
	kraft := map[int]int{0: 0, 1: 1 << 14, 2: 1 << 13, 3: 1 << 12}
	for k := range 4 * 4 * 4 * 4 * 4 {
		var l []int
		sum, coded := 0, 0
		for i := range 5 {
			n := k >> (2 * i) & 3
			l = append(l, n)
			sum += kraft[n]
			coded += min(n, 1)
		}
		want := sum == 1<<15 || coded == 1 && slices.Max(l) == 1
		if Right(l) != want {
			t.Errorf("Right of %v: %v", l, !want)
		}
		for _, wrong := range []int{-1, 16, math.MinInt, math.MaxInt} {
			if Right(append(slices.Clone(l), wrong)) {
				t.Errorf("Right of %v and %d", l, wrong)
			}
		}
	}
}

// P6.1: Put adds the code in its length, the highest bit first, and tells so.
func TestPut(t *testing.T) {
	for _, l := range rights() {
		tab, _ := New(l)
		texts := spelt(l)
		w := bits.NewWriter()
		want := ""
		for s := range l {
			if got := tab.Put(w, s); got != (l[s] > 0) {
				t.Fatalf("Put of %d by %v: %v", s, l, got)
			}
			want += texts[s]
			if w.Len() != len(want) {
				t.Fatalf("Put of %d by %v: %d bits instead of %d", s, l, w.Len(), len(want))
			}
		}
		if !bytes.Equal(w.Bytes(), packed(want)) {
			t.Errorf("Put by %v: %x instead of %x", l, w.Bytes(), packed(want))
		}
	}
}

// P6.1: Put of a symbol that has no code, or of no Writer, is false, and adds nothing.
func TestPutOfNone(t *testing.T) {
	none := []int{-1, -2, 256, 257, 1 << 16, 1 << 32, math.MaxInt, math.MinInt, math.MinInt + 256}
	for _, l := range [][]int{{1, 2, 2}, {0, 1}, same(256, 8), ladder(15), single(256, 255)} {
		tab, _ := New(l)
		w := bits.NewWriter()
		w.Put(1, 3)
		for _, s := range none {
			if tab.Put(w, s) || w.Len() != 3 {
				t.Errorf("Put of %d by %v: %d bits", s, l, w.Len())
			}
		}
		for s := range 256 {
			if s < len(l) && l[s] > 0 {
				continue
			}
			if tab.Put(w, s) || w.Len() != 3 {
				t.Errorf("Put of %d by %v: %d bits", s, l, w.Len())
			}
		}
		if tab.Put(nil, slices.Index(l, slices.Max(l))) {
			t.Errorf("Put by %v, without a Writer", l)
		}
		if !bytes.Equal(w.Bytes(), packed("001")) {
			t.Errorf("Put of none by %v: %x", l, w.Bytes())
		}
	}
}

// P6.1: Take tells each symbol by its code, and takes just that, whatever is behind it.
func TestTake(t *testing.T) {
	for _, l := range rights() {
		tab, _ := New(l)
		for s, text := range spelt(l) {
			if text == "" {
				continue
			}
			for _, behind := range []string{"", "0", "1", "0000000000000000", "1111111111111111"} {
				r := reading(t, text+behind)
				if got, ok := tab.Take(r); got != s || !ok || r.Left() != len(behind) {
					t.Fatalf("Take of %s, %s by %v: %d, %v, %d left", text, behind, l, got, ok, r.Left())
				}
			}
		}
	}
}

// P6.1: what ends within a code isn't taken, however often it is asked; nor is nothing, nor a Reader that isn't there.
func TestTakeOfWhatEndsWithin(t *testing.T) {
	for i, l := range rights() {
		tab, _ := New(l)
		for s, text := range spelt(l) {
			if i > 60 && s%16 > 0 {
				continue // these are many: some will do
			}
			for n := range len(text) {
				takesNothing(t, tab, reading(t, text[:n]), fmt.Sprintf("%s of %s by %v", text[:n], text, l))
			}
		}
		takesNothing(t, tab, bits.NewReader(nil), "nothing")
		if got, ok := tab.Take(nil); got != 0 || ok {
			t.Errorf("Take without a Reader: %d, %v", got, ok)
		}
	}
}

// P6.1: a 1 is no code where there is just one, whatever is behind it.
func TestTakeOfNoCode(t *testing.T) {
	for _, l := range [][]int{{1}, {0, 1}, single(256, 255), single(256, 0)} {
		tab, _ := New(l)
		for n := range 40 {
			takesNothing(t, tab, reading(t, "1"+strings.Repeat("0", n)), "a 1 and 0s")
			takesNothing(t, tab, reading(t, "1"+strings.Repeat("1", n)), "1s")
		}
		r := reading(t, "001")
		for left := 2; left > 0; left-- {
			if got, ok := tab.Take(r); got != slices.Index(l, 1) || !ok || r.Left() != left {
				t.Errorf("Take of 0 by %v: %d, %v, %d left", l, got, ok, r.Left())
			}
		}
		takesNothing(t, tab, r, "the 1 behind two 0s")
	}
}

// takesNothing holds that there is no code at r's next bits, however often it is asked, and that they all stay.
func takesNothing(t *testing.T, tab *Table, r *bits.Reader, what string) {
	t.Helper()
	left := r.Left()
	for range 2 {
		if got, ok := tab.Take(r); got != 0 || ok || r.Left() != left {
			t.Errorf("Take of %s: %d, %v, %d of %d bits left", what, got, ok, r.Left(), left)
		}
	}
}

// P6.1: any bits, taken till there is no code, are what the texts of the codes tell; what is left stays as it was.
func TestTakeOfAnyBits(t *testing.T) {
	rnd := rand.New(rand.NewSource(61))
	for _, l := range rights() {
		tab, _ := New(l)
		codes := spelt(l)
		text := ""
		for range 100 + rnd.Intn(8) {
			text += string(rune('0' + rnd.Intn(2)))
		}
		r := reading(t, text)
		for {
			want, n := read(codes, text)
			got, ok := tab.Take(r)
			if ok != (want >= 0) || got != max(want, 0) || r.Left() != len(text)-n {
				t.Fatalf("Take of %s by %v: %d, %v, %d left, instead of %d in %d", text, l, got, ok, r.Left(), want, n)
			}
			if !ok {
				break
			}
			text = text[n:]
		}
		if v, ok := r.Take(r.Left()); !ok || len(text) < 64 && v != uint64(value(text)) {
			t.Errorf("by %v: %x is left instead of %s", l, v, text)
		}
	}
}

// P6.1: what was put, symbol behind symbol, is taken.
func TestPutAndTake(t *testing.T) {
	rnd := rand.New(rand.NewSource(62))
	for _, l := range rights() {
		tab, _ := New(l)
		w := bits.NewWriter()
		var said []int
		for range 200 {
			if s := rnd.Intn(len(l)); tab.Put(w, s) {
				said = append(said, s)
			}
		}
		r := bits.NewReader(w.Bytes())
		for i, s := range said {
			if got, ok := tab.Take(r); got != s || !ok {
				t.Fatalf("by %v: the symbol %d is %d, %v instead of %d", l, i, got, ok, s)
			}
		}
	}
}

// P6.2: no code begins another one.
func TestNoCodeBeginsAnother(t *testing.T) {
	for _, l := range rights() {
		codes := Codes(l)
		var texts []string
		for s, n := range l {
			if n == 0 {
				continue
			}
			text := fmt.Sprintf("%0*b", n, codes[s])
			if len(text) != n {
				t.Fatalf("Codes of %v: %s isn't %d long", l, text, n)
			}
			texts = append(texts, text)
		}
		// In order, what begins others stands right ahead of one of them.
		slices.Sort(texts)
		for i := 1; i < len(texts); i++ {
			if strings.HasPrefix(texts[i], texts[i-1]) {
				t.Errorf("Codes of %v: %s begins %s", l, texts[i-1], texts[i])
			}
		}
	}
}

// DOC.md, 3: what is handed in stays as it is, the room behind it too, and isn't kept; what is answered is new.
func TestMemory(t *testing.T) {
	room := []int{2, 2, 1, 0, 7, 7, 7}
	l := room[:4]
	codes := Codes(l)
	tab, ok := New(l)
	if !Right(l) || !ok || !slices.Equal(room, []int{2, 2, 1, 0, 7, 7, 7}) {
		t.Fatalf("the lengths are %v now", room)
	}
	clear(room)
	other := Codes([]int{2, 2, 1, 0})
	other[1] = 9
	if !slices.Equal(codes, []int{2, 3, 0, 0}) {
		t.Errorf("Codes are %v now", codes)
	}
	w := bits.NewWriter()
	for s := range 4 {
		tab.Put(w, s)
	}
	if w.Len() != 5 || !bytes.Equal(w.Bytes(), packed("10110")) {
		t.Errorf("Put: %x, %d bits", w.Bytes(), w.Len())
	}
}

// Two tables know nothing of each other.
func TestTwoTables(t *testing.T) {
	one, _ := New([]int{1, 2, 2})
	two, _ := New([]int{2, 2, 1})
	w := bits.NewWriter()
	one.Put(w, 1)
	two.Put(w, 1)
	one.Put(w, 0)
	two.Put(w, 2)
	if w.Len() != 6 || !bytes.Equal(w.Bytes(), packed("101100")) {
		t.Errorf("Put: %x, %d bits", w.Bytes(), w.Len())
	}
	r := bits.NewReader(w.Bytes())
	for i, c := range []struct {
		tab  *Table
		want int
	}{{one, 1}, {two, 1}, {one, 0}, {two, 2}} {
		if got, ok := c.tab.Take(r); got != c.want || !ok {
			t.Errorf("Take %d: %d, %v instead of %d", i, got, ok, c.want)
		}
	}
}
