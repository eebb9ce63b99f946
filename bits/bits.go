// Package bits writes and reads bit by bit: see doc/01-bits.md.
package bits

const maxWidth = 64 // bits of one Put or Take

// Writer gathers bits one behind another.
type Writer struct {
	bytes []byte // the unused bits of the last one are 0
	count int    // bits
}

// NewWriter answers a Writer that holds no bits.
func NewWriter() *Writer {
	return &Writer{}
}

// Put adds the lowest n bits of v, the highest of these first.
func (w *Writer) Put(v uint64, n int) {
	for left := width(n); left > 0; left-- {
		w.add(byte(v >> (left - 1) & 1))
	}
}

func (w *Writer) add(bit byte) {
	if w.count%8 == 0 {
		w.bytes = append(w.bytes, 0)
	}
	w.bytes[w.count/8] |= bit << place(w.count)
	w.count++
}

// Len tells how many bits there are.
func (w *Writer) Len() int {
	return w.count
}

// Bytes answers the bits, the last byte filled up with 0.
func (w *Writer) Bytes() []byte {
	return copied(w.bytes)
}

// Reader takes bits one behind another.
type Reader struct {
	bytes []byte
	next  int // the bit that is taken next
}

// NewReader answers a Reader of all bits of b.
func NewReader(b []byte) *Reader {
	// A copy: the caller may change b while the Reader is in use.
	return &Reader{bytes: copied(b)}
}

// Take answers the next n bits, the first of them as the highest; false, and nothing is taken, if there are fewer.
func (r *Reader) Take(n int) (uint64, bool) {
	count := width(n)
	if r.Left() < int(count) {
		return 0, false
	}
	var v uint64
	for range count {
		bit := r.bytes[r.next/8] >> place(r.next) & 1
		v = v<<1 | uint64(bit)
		r.next++
	}
	return v, true
}

// Left tells how many bits aren't taken yet.
func (r *Reader) Left() int {
	return 8*len(r.bytes) - r.next
}

// Flip answers b with the bit from + i turned for each bit i of mask that is 1; those that aren't in b are left out.
func Flip(b []byte, from int, mask uint32) []byte {
	out := copied(b)
	for i := range 32 {
		// from + i may fit no int: so i is taken from the bounds instead.
		inside := from >= -i && from < 8*len(out)-i
		if inside && mask>>i&1 == 1 {
			out[(from+i)/8] ^= 1 << place(from+i)
		}
	}
	return out
}

// width brings n into what one Put or Take handles.
func width(n int) uint {
	return uint(min(max(n, 0), maxWidth))
}

// place tells where in its byte a bit stands.
func place(bit int) uint {
	return uint(bit % 8)
}

func copied(b []byte) []byte {
	out := make([]byte, len(b))
	copy(out, b)
	return out
}
