package varint

import (
	"bytes"
	"encoding/binary"
	"math"
	"math/big"
	"math/rand"
	"slices"
	"testing"

	"archipelago/api"
)

const all = math.MaxUint64

// edges tells the numbers at which a form grows by a byte, and those beside them.
func edges() []uint64 {
	l := []uint64{0, 1, 2, 300, all - 1, all}
	for i := 1; i < 64; i++ {
		l = append(l, 1<<i-1, 1<<i, 1<<i+1)
	}
	return l
}

// any64 tells a number of any length in bits, as often short as long.
func any64(r *rand.Rand) uint64 {
	return r.Uint64() >> r.Intn(64)
}

// model tells what Take must, rule by rule in the chapter's order, in numbers that no shift can overflow.
func model(b []byte, most uint64) (uint64, int, api.Errno) {
	last := slices.IndexFunc(b, func(x byte) bool { return x < 128 })
	if len(b) >= 10 && (last < 0 || last >= 9) && b[9] > 1 {
		return 0, 0, api.ErrForm
	}
	if last < 0 {
		return 0, 0, api.ErrShort
	}
	if last > 0 && b[last] == 0 {
		return 0, 0, api.ErrForm
	}
	v := new(big.Int)
	for i := last; i >= 0; i-- {
		v.Mul(v, big.NewInt(128))
		v.Add(v, big.NewInt(int64(b[i]%128)))
	}
	if v.Cmp(new(big.Int).SetUint64(most)) > 0 {
		return 0, 0, api.ErrLong
	}
	return v.Uint64(), last + 1, api.OK
}

func sameAsModel(t *testing.T, b []byte, most uint64) {
	t.Helper()
	v, n, e := Take(b, most)
	wantV, wantN, wantE := model(b, most)
	if v != wantV || n != wantN || e != wantE {
		t.Fatalf("Take(%x, %d): %d, %d, %d instead of %d, %d, %d", b, most, v, n, e, wantV, wantN, wantE)
	}
}

// P2.1: the form of a number, from the document's example to the greatest one, and how many bytes it is.
func TestPut(t *testing.T) {
	for _, c := range []struct {
		v    uint64
		want []byte
	}{
		{300, []byte{0xac, 0x02}},
		{0, []byte{0}},
		{1, []byte{1}},
		{127, []byte{0x7f}},
		{128, []byte{0x80, 0x01}},
		{255, []byte{0xff, 0x01}},
		{1<<14 - 1, []byte{0xff, 0x7f}},
		{1 << 14, []byte{0x80, 0x80, 0x01}},
		{1<<63 - 1, []byte{0xff, 0xff, 0xff, 0xff, 0xff, 0xff, 0xff, 0xff, 0x7f}},
		{1 << 63, []byte{0x80, 0x80, 0x80, 0x80, 0x80, 0x80, 0x80, 0x80, 0x80, 0x01}},
		{all, []byte{0xff, 0xff, 0xff, 0xff, 0xff, 0xff, 0xff, 0xff, 0xff, 0x01}},
	} {
		if b := Put(c.v); !bytes.Equal(b, c.want) {
			t.Errorf("Put(%d): %x instead of %x", c.v, b, c.want)
		}
		if n := Size(c.v); n != len(c.want) {
			t.Errorf("Size(%d): %d instead of %d", c.v, n, len(c.want))
		}
	}
}

// P2.1: Put and Size at every edge, held against the library's form.
func TestPutAndSizeAtEdges(t *testing.T) {
	for _, v := range edges() {
		want := binary.AppendUvarint(nil, v)
		if b := Put(v); !bytes.Equal(b, want) {
			t.Errorf("Put(%d): %x instead of %x", v, b, want)
		}
		if n := Size(v); n != len(want) {
			t.Errorf("Size(%d): %d instead of %d", v, n, len(want))
		}
	}
}

// P2.1: several numbers stand one behind another, in their order; of none there are no bytes.
func TestPutOfSome(t *testing.T) {
	if b := Put(); len(b) != 0 {
		t.Errorf("Put of none: %x", b)
	}
	if b := Put([]uint64{}...); len(b) != 0 {
		t.Errorf("Put of an empty list: %x", b)
	}
	if b := Put(0, 300, 0, 5); !bytes.Equal(b, []byte{0, 0xac, 0x02, 0, 5}) {
		t.Errorf("Put(0, 300, 0, 5): %x", b)
	}
	r := rand.New(rand.NewSource(1))
	for range 300 {
		var l []uint64
		var want []byte
		for range r.Intn(40) {
			v := any64(r)
			l = append(l, v)
			want = binary.AppendUvarint(want, v)
		}
		if b := Put(l...); !bytes.Equal(b, want) {
			t.Fatalf("Put(%d): %x instead of %x", l, b, want)
		}
	}
}

// P2.1: numbers that were put are taken one after another, whatever stands behind them.
func TestTakeWhatWasPut(t *testing.T) {
	l := edges()
	b := Put(l...)
	for i, want := range l {
		v, n, e := Take(b, all)
		if v != want || n != Size(want) || e != api.OK {
			t.Fatalf("Take of number %d, %d: %d, %d, %d", i, want, v, n, e)
		}
		b = b[n:]
	}
	if v, n, e := Take(b, all); v != 0 || n != 0 || e != api.ErrShort {
		t.Errorf("Take behind the last: %d, %d, %d", v, n, e)
	}
}

// P2.1: a number is taken at most, and not above it.
func TestTakeAtMost(t *testing.T) {
	for _, v := range edges() {
		b := append(Put(v), 0xff)
		if got, n, e := Take(b, v); got != v || n != len(b)-1 || e != api.OK {
			t.Errorf("Take of %d, most the same: %d, %d, %d", v, got, n, e)
		}
		if v == 0 {
			continue
		}
		for _, most := range []uint64{0, v / 2, v - 1} {
			if got, n, e := Take(b, most); got != 0 || n != 0 || e != api.ErrLong {
				t.Errorf("Take of %d, most %d: %d, %d, %d", v, most, got, n, e)
			}
		}
	}
}

// P2.1: whatever b lacks at its end, it is short.
func TestTakeOfLess(t *testing.T) {
	for _, v := range edges() {
		b := Put(v)
		for n := range len(b) {
			for _, most := range []uint64{0, all} {
				if v, n, e := Take(b[:n], most); v != 0 || n != 0 || e != api.ErrShort {
					t.Errorf("Take(%x, %d): %d, %d, %d", b[:n], most, v, n, e)
				}
			}
		}
	}
	if v, n, e := Take(nil, all); v != 0 || n != 0 || e != api.ErrShort {
		t.Errorf("Take of nil: %d, %d, %d", v, n, e)
	}
}

// P2.1: a last byte 0 is wrong at each place but the first, be the number above most or not.
func TestTakeOfLastByteZero(t *testing.T) {
	for n := 1; n <= 9; n++ {
		for _, fill := range []byte{0x80, 0x81, 0xff} {
			b := append(bytes.Repeat([]byte{fill}, n), 0)
			for _, most := range []uint64{0, all} {
				if v, n, e := Take(b, most); v != 0 || n != 0 || e != api.ErrForm {
					t.Errorf("Take(%x, %d): %d, %d, %d", b, most, v, n, e)
				}
			}
		}
	}
}

// P2.1: of ten bytes the last one is 1; above it the form is wrong, whether more bytes come or not.
func TestTakeOfTenthByte(t *testing.T) {
	nine := bytes.Repeat([]byte{0x80}, 9)
	for x := range 256 {
		for _, behind := range [][]byte{nil, {0}, {1}, {0x80}, {0xff, 0xff, 0x7f}} {
			b := slices.Concat(nine, []byte{byte(x)}, behind)
			v, n, e := Take(b, all)
			if x == 1 {
				if v != 1<<63 || n != 10 || e != api.OK {
					t.Errorf("Take(%x): %d, %d, %d", b, v, n, e)
				}
				continue
			}
			if v != 0 || n != 0 || e != api.ErrForm {
				t.Errorf("Take(%x): %d, %d, %d", b, v, n, e)
			}
		}
	}
	if v, n, e := Take(append(nine, 1), 1<<63-1); v != 0 || n != 0 || e != api.ErrLong {
		t.Errorf("Take of ten bytes above most: %d, %d, %d", v, n, e)
	}
	if v, n, e := Take(bytes.Repeat([]byte{0xff}, 1<<16), 0); v != 0 || n != 0 || e != api.ErrForm {
		t.Errorf("Take of bytes that never end: %d, %d, %d", v, n, e)
	}
}

// P2.1: any bytes at all, held against the chapter's rules one by one.
func TestTakeOfAnyBytes(t *testing.T) {
	r := rand.New(rand.NewSource(2))
	some := []byte{0, 1, 2, 0x7f, 0x80, 0x81, 0x82, 0xff}
	for range 200000 {
		b := make([]byte, r.Intn(14))
		for i := range b {
			b[i] = some[r.Intn(len(some))]
			if i < 9 && r.Intn(8) > 0 {
				b[i] |= 0x80
			}
		}
		sameAsModel(t, b, all)
		sameAsModel(t, b, any64(r))
	}
}

// P2.2: of all bytes, up to three: either they begin with no number, or with the one form of theirs.
func TestOneFormOfShortOnes(t *testing.T) {
	for n := range 4 {
		for x := range 1 << (8 * n) {
			b := []byte{byte(x), byte(x >> 8), byte(x >> 16)}[:n]
			v, size, e := Take(b, all)
			if e != api.OK {
				continue
			}
			if size < 1 || size > n || size != Size(v) || !bytes.Equal(Put(v), b[:size]) {
				t.Fatalf("Take(%x): %d of %d bytes, but Put says %x", b, v, size, Put(v))
			}
		}
	}
}

// P2.2: the same of long ones, with a byte changed here and there.
func TestOneFormOfLongOnes(t *testing.T) {
	r := rand.New(rand.NewSource(3))
	for range 100000 {
		want := any64(r)
		b := Put(want)
		if v, n, e := Take(b, all); v != want || n != len(b) || e != api.OK {
			t.Fatalf("Take(%x): %d, %d, %d instead of %d", b, v, n, e, want)
		}
		b[r.Intn(len(b))] ^= 1 << r.Intn(8)
		v, n, e := Take(b, all)
		if e == api.OK && (v == want || !bytes.Equal(Put(v), b[:n])) {
			t.Fatalf("Take(%x): %d, which is %x", b, v, Put(v))
		}
	}
}

// P2.1: what is handed in stays as it is, with the room behind it, and answers are new memory.
func TestNothingIsSharedOrChanged(t *testing.T) {
	room := []uint64{1, 300, 7, 8}
	first := Put(room[:2]...)
	if !slices.Equal(room, []uint64{1, 300, 7, 8}) {
		t.Errorf("Put changed its list: %d", room)
	}
	second := Put(room[:2]...)
	second[0] = 9
	room[0] = 5
	if !bytes.Equal(first, []byte{1, 0xac, 0x02}) {
		t.Errorf("Put's answer changed: %x", first)
	}
	b := []byte{0xac, 0x02, 0xac, 0x02}
	for n := range b {
		Take(b[:n], 3)
	}
	if !bytes.Equal(b, []byte{0xac, 0x02, 0xac, 0x02}) {
		t.Errorf("Take changed its bytes: %x", b)
	}
}
