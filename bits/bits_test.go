package bits

import (
	"bytes"
	"math"
	"math/rand"
	"strings"
	"testing"
)

// inOrder tells the bits of b as 0s and 1s: one byte behind another, of each from the lowest on.
func inOrder(b []byte) string {
	var s strings.Builder
	for _, x := range b {
		for i := range 8 {
			s.WriteByte('0' + x>>i&1)
		}
	}
	return s.String()
}

// highestFirst tells the lowest n bits of v as Put puts them.
func highestFirst(v uint64, n int) string {
	n = min(max(n, 0), 64)
	s := make([]byte, n)
	for i := range n {
		s[n-1-i] = '0' + byte(v>>i&1)
	}
	return string(s)
}

// filledUp tells what Bytes must hold of these bits.
func filledUp(s string) string {
	for len(s)%8 != 0 {
		s += "0"
	}
	return s
}

// P1.1: the document's example.
func TestPutExample(t *testing.T) {
	w := NewWriter()
	w.Put(1, 2)
	if b := w.Bytes(); !bytes.Equal(b, []byte{0x02}) || w.Len() != 2 {
		t.Errorf("Put(1, 2): %x, %d bits", b, w.Len())
	}
}

// P1.1: which bits are put, in what order, and how many there are then.
func TestPut(t *testing.T) {
	for _, c := range []struct {
		v    uint64
		n    int
		want []byte
		bits int
	}{
		{0, 1, []byte{0x00}, 1},
		{1, 1, []byte{0x01}, 1},
		{2, 2, []byte{0x01}, 2},
		{1, 8, []byte{0x80}, 8},
		{0x80, 8, []byte{0x01}, 8},
		{1, 9, []byte{0x00, 0x01}, 9},
		{0x100, 9, []byte{0x01, 0x00}, 9},
		{0xfff1, 4, []byte{0x08}, 4}, // the bits above the lowest 4 aren't put
		{1, 63, []byte{0, 0, 0, 0, 0, 0, 0, 0x40}, 63},
		{1, 64, []byte{0, 0, 0, 0, 0, 0, 0, 0x80}, 64},
		{1 << 63, 64, []byte{1, 0, 0, 0, 0, 0, 0, 0}, 64},
		{1 << 63, 63, []byte{0, 0, 0, 0, 0, 0, 0, 0}, 63},
	} {
		w := NewWriter()
		w.Put(c.v, c.n)
		if b := w.Bytes(); !bytes.Equal(b, c.want) || w.Len() != c.bits {
			t.Errorf("Put(%#x, %d): %x, %d bits, not %x, %d", c.v, c.n, b, w.Len(), c.want, c.bits)
		}
	}
}

// P1.1: n counts as 0 to 64 in Put.
func TestPutWidths(t *testing.T) {
	for _, c := range []struct{ n, want int }{
		{math.MinInt, 0}, {-64, 0}, {-1, 0}, {0, 0}, {1, 1}, {63, 63}, {64, 64}, {65, 64}, {128, 64}, {math.MaxInt, 64},
	} {
		w := NewWriter()
		w.Put(1, 3)
		w.Put(math.MaxUint64, c.n)
		if w.Len() != 3+c.want {
			t.Errorf("Put of %d bits: Len is %d, not %d", c.n, w.Len(), 3+c.want)
		}
		want := filledUp("001" + strings.Repeat("1", c.want))
		if got := inOrder(w.Bytes()); got != want {
			t.Errorf("Put of %d bits: %s, not %s", c.n, got, want)
		}
	}
}

// P1.1: nothing was put.
func TestWriterOfNothing(t *testing.T) {
	w := NewWriter()
	if w.Len() != 0 || len(w.Bytes()) != 0 {
		t.Errorf("a new Writer: %d bits, %x", w.Len(), w.Bytes())
	}
	w.Put(math.MaxUint64, 0)
	if w.Len() != 0 || len(w.Bytes()) != 0 {
		t.Errorf("after Put of 0 bits: %d bits, %x", w.Len(), w.Bytes())
	}
}

// P1.1: Bytes is new memory, and changes nothing.
func TestBytesIsNewMemory(t *testing.T) {
	w := NewWriter()
	w.Put(0xabc, 12)
	first := w.Bytes()
	kept := bytes.Clone(first)
	second := w.Bytes()
	second[0], second[1] = ^second[0], ^second[1]
	_ = append(second[:0], 1, 2, 3, 4)
	if !bytes.Equal(w.Bytes(), kept) {
		t.Errorf("what was answered is the Writer's own: %x, not %x", w.Bytes(), kept)
	}
	w.Put(0xf, 4)
	if !bytes.Equal(first, kept) {
		t.Errorf("a later Put changed what was answered: %x, not %x", first, kept)
	}
	if got, want := inOrder(w.Bytes()), "1010101111001111"; got != want {
		t.Errorf("Put after Bytes: %s, not %s", got, want)
	}
}

// P1.1: two Writers are apart.
func TestWritersApart(t *testing.T) {
	a, b := NewWriter(), NewWriter()
	a.Put(3, 2)
	b.Put(0, 5)
	if a.Len() != 2 || b.Len() != 5 || a.Bytes()[0] != 3 || b.Bytes()[0] != 0 {
		t.Errorf("%d bits, %x; %d bits, %x", a.Len(), a.Bytes(), b.Len(), b.Bytes())
	}
}

// P1.1: what is taken, and how many are left; where there are fewer, nothing is taken.
func TestTake(t *testing.T) {
	r := NewReader([]byte{0x35, 0x80, 0xff}) // 10101100 00000001 11111111
	for i, c := range []struct {
		n    int
		want uint64
		ok   bool
		left int
	}{
		{25, 0, false, 24},
		{1, 1, true, 23},
		{3, 2, true, 20},
		{0, 0, true, 20},
		{21, 0, false, 20},
		{64, 0, false, 20},
		{math.MaxInt, 0, false, 20},
		{math.MinInt, 0, true, 20},
		{12, 0xc01, true, 8},
		{9, 0, false, 8},
		{8, 0xff, true, 0},
		{1, 0, false, 0},
		{0, 0, true, 0},
		{-1, 0, true, 0},
	} {
		v, ok := r.Take(c.n)
		if v != c.want || ok != c.ok || r.Left() != c.left {
			t.Errorf("step %d, Take(%d): %#x, %v, %d left, not %#x, %v, %d", i, c.n, v, ok, r.Left(), c.want, c.ok, c.left)
		}
	}
}

// P1.1: n counts as 0 to 64 in Take.
func TestTakeWidths(t *testing.T) {
	b := bytes.Repeat([]byte{0xff}, 9)
	for _, c := range []struct{ n, want int }{
		{math.MinInt, 0}, {-1, 0}, {0, 0}, {1, 1}, {63, 63}, {64, 64}, {65, 64}, {72, 64}, {73, 64}, {math.MaxInt, 64},
	} {
		r := NewReader(b)
		v, ok := r.Take(c.n)
		want := uint64(math.MaxUint64)
		if c.want < 64 {
			want = 1<<c.want - 1
		}
		if v != want || !ok || r.Left() != 72-c.want {
			t.Errorf("Take(%d): %#x, %v, %d left", c.n, v, ok, r.Left())
		}
	}
}

// P1.1: one more than there are, and then just as many.
func TestTakeAtTheEnd(t *testing.T) {
	for n := range 64 {
		b := make([]byte, (n+7)/8)
		r := NewReader(b)
		r.Take(8*len(b) - n)
		if v, ok := r.Take(n + 1); v != 0 || ok || r.Left() != n {
			t.Errorf("Take(%d) of %d: %#x, %v, %d left", n+1, n, v, ok, r.Left())
		}
		if _, ok := r.Take(n); !ok || r.Left() != 0 {
			t.Errorf("Take(%d) of %d: %v, %d left", n, n, ok, r.Left())
		}
	}
}

// P1.1: a nil list and an empty one are the same.
func TestReaderOfNothing(t *testing.T) {
	for _, b := range [][]byte{nil, {}} {
		r := NewReader(b)
		if v, ok := r.Take(1); v != 0 || ok || r.Left() != 0 {
			t.Errorf("Take(1) of nothing: %d, %v, %d left", v, ok, r.Left())
		}
		if v, ok := r.Take(0); v != 0 || !ok || r.Left() != 0 {
			t.Errorf("Take(0) of nothing: %d, %v, %d left", v, ok, r.Left())
		}
	}
}

// P1.1: what is handed in is neither kept nor changed, the spare room behind it included.
func TestReaderKeepsNothing(t *testing.T) {
	room := []byte{0x0f, 0xf0, 0xaa, 0xbb}
	b := room[:2]
	r := NewReader(b)
	if r.Left() != 16 {
		t.Errorf("Left: %d, not 16", r.Left())
	}
	b[0], b[1] = 0xff, 0xff
	if v, ok := r.Take(16); v != 0xf00f || !ok {
		t.Errorf("after the list was changed: %#x, %v", v, ok)
	}
	if !bytes.Equal(room, []byte{0xff, 0xff, 0xaa, 0xbb}) {
		t.Errorf("what was handed in is changed: %x", room)
	}
}

// P1.2: ordinary places, and those that aren't in b.
func TestFlip(t *testing.T) {
	const all = math.MaxUint32
	for _, c := range []struct {
		b    []byte
		from int
		mask uint32
		want []byte
	}{
		{[]byte{0, 0}, 0, 0, []byte{0, 0}},
		{[]byte{0, 0}, 0, 1, []byte{1, 0}},
		{[]byte{0, 0}, 1, 1, []byte{2, 0}},
		{[]byte{0, 0}, 0, 6, []byte{6, 0}},
		{[]byte{0, 0}, 7, 3, []byte{0x80, 1}},
		{[]byte{0xff, 0xff}, 7, 3, []byte{0x7f, 0xfe}},
		{[]byte{0, 0}, 15, 1, []byte{0, 0x80}},
		{[]byte{0, 0}, 15, 3, []byte{0, 0x80}},
		{[]byte{0, 0}, 16, all, []byte{0, 0}},
		{[]byte{0, 0}, 0, all, []byte{0xff, 0xff}},
		{[]byte{0, 0}, -1, 1, []byte{0, 0}},
		{[]byte{0, 0}, -1, 3, []byte{1, 0}},
		{[]byte{0, 0}, -8, all, []byte{0xff, 0xff}},
		{[]byte{0, 0}, -31, all, []byte{1, 0}},
		{[]byte{0, 0}, -31, all >> 1, []byte{0, 0}},
		{[]byte{0, 0}, -32, all, []byte{0, 0}},
		{[]byte{0, 0}, math.MaxInt, all, []byte{0, 0}},
		{[]byte{0, 0}, math.MaxInt - 31, all, []byte{0, 0}},
		{[]byte{0, 0}, math.MinInt, all, []byte{0, 0}},
		{[]byte{0, 0, 0, 0, 0}, 4, all, []byte{0xf0, 0xff, 0xff, 0xff, 0x0f}},
		{[]byte{0, 0, 0, 0, 0}, 8, 1 << 31, []byte{0, 0, 0, 0, 0x80}},
	} {
		given := bytes.Clone(c.b)
		if got := Flip(given, c.from, c.mask); !bytes.Equal(got, c.want) {
			t.Errorf("Flip(%x, %d, %#x): %x, not %x", c.b, c.from, c.mask, got, c.want)
		}
		if !bytes.Equal(given, c.b) {
			t.Errorf("Flip(%x, %d, %#x) changed what was handed in: %x", c.b, c.from, c.mask, given)
		}
	}
}

// P1.2: each place against the bits told one by one.
func TestFlipEachPlace(t *testing.T) {
	source := rand.New(rand.NewSource(12))
	b := make([]byte, 9)
	for from := -40; from <= 80; from++ {
		source.Read(b)
		mask := source.Uint32()
		want := []byte(inOrder(b))
		for i := range 32 {
			if at := from + i; mask>>i&1 == 1 && at >= 0 && at < len(want) {
				want[at] ^= 1
			}
		}
		got := Flip(b, from, mask)
		if inOrder(got) != string(want) {
			t.Errorf("Flip(%x, %d, %#x): %x", b, from, mask, got)
		}
		if again := Flip(got, from, mask); !bytes.Equal(again, b) {
			t.Errorf("Flip(%x, %d, %#x) twice: %x", b, from, mask, again)
		}
	}
}

// P1.2: of nothing.
func TestFlipOfNothing(t *testing.T) {
	for _, b := range [][]byte{nil, {}} {
		for _, from := range []int{math.MinInt, -31, -1, 0, 1, math.MaxInt} {
			if got := Flip(b, from, math.MaxUint32); len(got) != 0 {
				t.Errorf("Flip of nothing, from %d: %x", from, got)
			}
		}
	}
}

// P1.2: what is answered is new memory, and the spare room behind b stays.
func TestFlipIsNewMemory(t *testing.T) {
	room := []byte{1, 2, 3, 4}
	b := room[:2]
	for _, mask := range []uint32{0, math.MaxUint32} {
		got := Flip(b, 0, mask)
		got[0], got[1] = 77, 78
		_ = append(got, 79, 80)
		if !bytes.Equal(room, []byte{1, 2, 3, 4}) {
			t.Fatalf("mask %#x: what was handed in is changed: %x", mask, room)
		}
	}
}

// P1.3: each width at each place in a byte, there and back.
func TestPutThenTakeEachWidth(t *testing.T) {
	for ahead := range 8 {
		for n := 0; n <= 64; n++ {
			for _, v := range []uint64{0, 1, 1 << 63, math.MaxUint64, 0x123456789abcdef0} {
				w := NewWriter()
				w.Put(0x55, ahead)
				w.Put(v, n)
				w.Put(1, 1)
				want := highestFirst(0x55, ahead) + highestFirst(v, n) + "1"
				if got := inOrder(w.Bytes()); got != filledUp(want) || w.Len() != len(want) {
					t.Fatalf("Put(%#x, %d) behind %d bits: %s, %d bits, not %s", v, n, ahead, got, w.Len(), want)
				}
				r := NewReader(w.Bytes())
				first, ok1 := r.Take(ahead)
				second, ok2 := r.Take(n)
				third, ok3 := r.Take(1)
				low := v & (1<<n - 1)
				if first != 0x55&(1<<ahead-1) || second != low || third != 1 || !ok1 || !ok2 || !ok3 {
					t.Fatalf("Put(%#x, %d) behind %d bits is taken as %#x, %#x, %#x", v, n, ahead, first, second, third)
				}
			}
		}
	}
}

// P1.3: long runs of Puts, wrong widths among them; Bytes asked on the way changes nothing.
func TestPutThenTakeRuns(t *testing.T) {
	source := rand.New(rand.NewSource(13))
	for range 200 {
		type put struct {
			v uint64
			n int
		}
		w := NewWriter()
		var puts []put
		var want strings.Builder
		for range source.Intn(60) {
			p := put{source.Uint64(), source.Intn(72) - 3}
			puts = append(puts, p)
			w.Put(p.v, p.n)
			want.WriteString(highestFirst(p.v, p.n))
			if got := inOrder(w.Bytes()); got != filledUp(want.String()) || w.Len() != want.Len() {
				t.Fatalf("after Put(%#x, %d): %s, %d bits", p.v, p.n, got, w.Len())
			}
		}
		r := NewReader(w.Bytes())
		for _, p := range puts {
			v, ok := r.Take(p.n)
			if !ok || highestFirst(v, p.n) != highestFirst(p.v, p.n) || v>>min(max(p.n, 0), 64) != 0 {
				t.Fatalf("Put(%#x, %d) is taken as %#x, %v", p.v, p.n, v, ok)
			}
		}
		if r.Left() != 8*len(w.Bytes())-w.Len() {
			t.Fatalf("%d left of %d bits put", r.Left(), w.Len())
		}
		if rest, ok := r.Take(r.Left()); rest != 0 || !ok {
			t.Fatalf("the filling is %#x, %v", rest, ok)
		}
	}
}
