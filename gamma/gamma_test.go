package gamma

import (
	"bytes"
	"math"
	"math/rand"
	"strings"
	"testing"

	"archipelago/bits"
)

// edges tells the numbers at which a gamma grows, and those beside them; 0 isn't among them.
func edges() []uint64 {
	l := []uint64{1, 5, 300, math.MaxUint64 - 1, math.MaxUint64}
	for i := 1; i < 64; i++ {
		l = append(l, 1<<i-1, 1<<i, 1<<i+1)
	}
	return l
}

// any64 tells a number that isn't 0, of any length in bits, as often short as long.
func any64(r *rand.Rand) uint64 {
	return max(1, r.Uint64()>>r.Intn(64))
}

// model tells the gamma of v as a text of 0s and 1s; v isn't 0.
func model(v uint64) string {
	text := ""
	for ; v > 0; v /= 2 {
		text = string(rune('0'+v%2)) + text
	}
	return strings.Repeat("0", len(text)-1) + text
}

// packed tells the bytes of a text of bits, the last one filled up with 0.
func packed(text string) []byte {
	b := make([]byte, (len(text)+7)/8)
	for i, c := range text {
		if c == '1' {
			b[i/8] += 1 << (i % 8)
		}
	}
	return b
}

// spelt tells the bits of b as a text.
func spelt(b []byte) string {
	var s strings.Builder
	for i := range 8 * len(b) {
		s.WriteByte('0' + b[i/8]>>(i%8)&1)
	}
	return s.String()
}

// read tells what Take must of a text of bits, and how many of these it takes.
func read(text string) (uint64, int, bool) {
	n := strings.IndexByte(text, '1')
	if n < 0 || n > 63 || len(text) < 2*n+1 {
		return 0, 0, false
	}
	var v uint64
	for _, c := range text[n : 2*n+1] {
		v = 2*v + uint64(c-'0')
	}
	return v, 2*n + 1, true
}

func written(l ...uint64) *bits.Writer {
	w := bits.NewWriter()
	for _, v := range l {
		Put(w, v)
	}
	return w
}

// takesNothing holds that there is no number at r's next bits, however often it is asked, and that they all stay.
func takesNothing(t *testing.T, r *bits.Reader, what string) {
	t.Helper()
	left := r.Left()
	for range 2 {
		if v, ok := Take(r); v != 0 || ok || r.Left() != left {
			t.Errorf("Take of %s: %d, %v, %d of %d bits left", what, v, ok, r.Left(), left)
		}
	}
}

// P3.1: the document's example and others, bit by bit.
func TestPut(t *testing.T) {
	for _, c := range []struct {
		v    uint64
		want string
	}{
		{5, "00101"},
		{0, ""},
		{1, "1"},
		{2, "010"},
		{3, "011"},
		{4, "00100"},
		{7, "00111"},
		{8, "0001000"},
		{255, "000000011111111"},
		{256, "00000000100000000"},
		{1 << 63, strings.Repeat("0", 63) + "1" + strings.Repeat("0", 63)},
		{math.MaxUint64, strings.Repeat("0", 63) + strings.Repeat("1", 64)},
	} {
		w := written(c.v)
		if w.Len() != len(c.want) || !bytes.Equal(w.Bytes(), packed(c.want)) {
			t.Errorf("Put of %d: %s, %d bits, instead of %s", c.v, spelt(w.Bytes()), w.Len(), c.want)
		}
		if n := Size(c.v); n != len(c.want) {
			t.Errorf("Size(%d): %d instead of %d", c.v, n, len(c.want))
		}
	}
}

// P3.1: Put and Size at every edge, held against the form spelt as a text.
func TestPutAndSizeAtEdges(t *testing.T) {
	for _, v := range edges() {
		want := model(v)
		w := written(v)
		if w.Len() != len(want) || !bytes.Equal(w.Bytes(), packed(want)) {
			t.Errorf("Put of %d: %s, %d bits, instead of %s", v, spelt(w.Bytes()), w.Len(), want)
		}
		if n := Size(v); n != len(want) {
			t.Errorf("Size(%d): %d instead of %d", v, n, len(want))
		}
	}
}

// P3.1: numbers stand one behind another, and behind what the writer has already; 0 leaves no trace among them.
func TestPutBehindOthers(t *testing.T) {
	r := rand.New(rand.NewSource(1))
	for range 300 {
		w := bits.NewWriter()
		w.Put(5, 3)
		want := "101"
		for range r.Intn(30) {
			v := any64(r)
			Put(w, v)
			Put(w, 0)
			want += model(v)
		}
		if w.Len() != len(want) || !bytes.Equal(w.Bytes(), packed(want)) {
			t.Fatalf("Put: %s, %d bits, instead of %s", spelt(w.Bytes()), w.Len(), want)
		}
	}
}

// P3.1: what was put is taken, number by number, from any bit on, and no bit more.
func TestTakeWhatWasPut(t *testing.T) {
	for shift := range 8 {
		w := bits.NewWriter()
		w.Put(0, shift)
		for _, v := range edges() {
			Put(w, v)
		}
		w.Put(1, 1)
		r := bits.NewReader(w.Bytes())
		r.Take(shift)
		left := r.Left()
		for _, want := range edges() {
			left -= Size(want)
			if v, ok := Take(r); v != want || !ok || r.Left() != left {
				t.Fatalf("Take of %d, %d bits on: %d, %v, %d bits left instead of %d", want, shift, v, ok, r.Left(), left)
			}
		}
		if v, ok := Take(r); v != 1 || !ok || r.Left() != left-1 {
			t.Errorf("Take of the last 1: %d, %v", v, ok)
		}
		takesNothing(t, r, "what fills up the last byte")
	}
}

// P3.1: if there isn't all of a number, be it the last bit alone that is missing, nothing is taken.
func TestTakeOfLess(t *testing.T) {
	takesNothing(t, bits.NewReader(nil), "no bits")
	for _, v := range edges() {
		text := model(v)
		for short := range len(text) {
			// Bits behind a number fill up a byte, so those ahead of it are what sets where all of them end.
			ahead := (8 - short%8) % 8
			r := bits.NewReader(packed(strings.Repeat("1", ahead) + text[:short]))
			r.Take(ahead)
			takesNothing(t, r, text[:short])
		}
	}
}

// P3.1: after a Take that came to nothing the bits are there for others.
func TestBitsStayAfterNothing(t *testing.T) {
	r := bits.NewReader([]byte{0x60})
	takesNothing(t, r, "00000110")
	if v, ok := r.Take(8); v != 6 || !ok {
		t.Errorf("the bits that stayed: %d, %v", v, ok)
	}
	r = bits.NewReader([]byte{0x01, 0x00})
	if v, ok := Take(r); v != 1 || !ok || r.Left() != 15 {
		t.Errorf("Take of 1: %d, %v", v, ok)
	}
	takesNothing(t, r, "15 bits 0")
	if v, ok := r.Take(15); v != 0 || !ok || r.Left() != 0 {
		t.Errorf("the 0s that stayed: %d, %v", v, ok)
	}
}

// P3.1: 63 bits 0 are those of the greatest numbers; 64 are of none, whatever stands behind them.
func TestTakeOfManyZeros(t *testing.T) {
	for n := range 200 {
		for _, behind := range []string{"", "1", "1" + strings.Repeat("0", 300), strings.Repeat("1", 300)} {
			b := packed(strings.Repeat("0", n) + behind)
			r := bits.NewReader(b)
			want, size, wantOK := read(spelt(b))
			if wantOK != (n < 64 && len(behind) > 0 && 8*len(b) > 2*n) {
				t.Fatalf("%d bits 0: the test itself is wrong", n)
			}
			if !wantOK {
				takesNothing(t, r, spelt(b))
				continue
			}
			if v, ok := Take(r); v != want || !ok || r.Left() != 8*len(b)-size {
				t.Errorf("Take of %d bits 0, then %q: %d, %v, %d bits left", n, behind, v, ok, r.Left())
			}
		}
	}
	takesNothing(t, bits.NewReader(make([]byte, 1<<16)), "nothing but 0s")
}

// P3.1: any bits at all, held against the rules spelt on a text, up to where nothing can be taken.
func TestTakeOfAnyBits(t *testing.T) {
	rnd := rand.New(rand.NewSource(2))
	for range 5000 {
		b := make([]byte, rnd.Intn(60))
		rare := rnd.Intn(20)
		for i := range b {
			if rnd.Intn(rare+1) == 0 {
				b[i] = byte(rnd.Intn(256))
			}
		}
		r := bits.NewReader(b)
		text := spelt(b)
		for {
			want, size, wantOK := read(text)
			v, ok := Take(r)
			text = text[size:]
			if v != want || ok != wantOK || r.Left() != len(text) {
				t.Fatalf("Take of %x: %d, %v, %d bits left, instead of %d, %v, %d", b, v, ok, r.Left(), want, wantOK, len(text))
			}
			if !ok {
				break
			}
		}
	}
}

// P3.1: of no writer nothing, of no reader false.
func TestOfNil(t *testing.T) {
	for _, v := range []uint64{0, 1, 5, math.MaxUint64} {
		Put(nil, v)
	}
	if v, ok := Take(nil); v != 0 || ok {
		t.Errorf("Take of nil: %d, %v", v, ok)
	}
}

// P3.2: a smaller number never takes more room, and each takes less than twice the bits that it has.
func TestSmallTakesLittle(t *testing.T) {
	for v := uint64(1); v < 1<<16; v++ {
		if Size(v) > Size(v+1) || Size(v) < 1 {
			t.Fatalf("Size(%d) is %d, Size(%d) is %d", v, Size(v), v+1, Size(v+1))
		}
	}
	r := rand.New(rand.NewSource(3))
	for range 100000 {
		low, high := any64(r), any64(r)
		if low > high {
			low, high = high, low
		}
		if Size(low) > Size(high) {
			t.Fatalf("Size(%d) is %d, Size(%d) is %d", low, Size(low), high, Size(high))
		}
	}
	for i := range 64 {
		for _, v := range []uint64{1 << i, 1<<i + (1<<i - 1)} {
			if n := written(v).Len(); n != 2*i+1 || n != Size(v) {
				t.Errorf("%d, of %d bits, takes %d bits; Size says %d", v, i+1, n, Size(v))
			}
		}
	}
}

// P3.2: of many small ones each 1 is a bit, each 2 and 3 three.
func TestManySmallTakeLittle(t *testing.T) {
	w := bits.NewWriter()
	for i := range uint64(1000) {
		Put(w, 1+i%3)
	}
	if w.Len() != 334+2*333*3 {
		t.Errorf("a thousand small numbers take %d bits", w.Len())
	}
}
