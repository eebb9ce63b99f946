package crc

import (
	"bytes"
	"hash/crc32"
	"math"
	"math/bits"
	"math/rand"
	"sync"
	"testing"
)

// model tells the sum bit by bit, as a long division of the bytes, turned about.
func model(b []byte) uint32 {
	left := uint32(math.MaxUint32)
	for _, c := range b {
		left ^= uint32(c)
		for range 8 {
			if left%2 == 1 {
				left = left/2 ^ 0xEDB88320
			} else {
				left /= 2
			}
		}
	}
	return ^left
}

// anyBytes tells up to most bytes, now and then all of one kind.
func anyBytes(r *rand.Rand, most int) []byte {
	b := make([]byte, r.Intn(most+1))
	switch r.Intn(4) {
	case 0:
	case 1:
		for i := range b {
			b[i] = 0xff
		}
	default:
		r.Read(b)
	}
	return b
}

// flipped tells b with its bits from the given one on turned where mask has a 1.
func flipped(b []byte, from int, mask uint32) []byte {
	c := bytes.Clone(b)
	for i := range 32 {
		if mask>>i&1 == 1 {
			c[(from+i)/8] ^= 1 << ((from + i) % 8)
		}
	}
	return c
}

// sealed tells what Seal must.
func sealed(b []byte) []byte {
	s := model(b)
	return append(bytes.Clone(b), byte(s), byte(s>>8), byte(s>>16), byte(s>>24))
}

// opensNot holds that b is no bytes' seal.
func opensNot(t *testing.T, b []byte) {
	t.Helper()
	if got, ok := Open(b); len(got) != 0 || ok {
		t.Errorf("Open(%x): %x, %v", b, got, ok)
	}
}

// P4.1: the document's example, and sums that are known elsewhere.
func TestKnownSums(t *testing.T) {
	for _, c := range []struct {
		text string
		want uint32
	}{
		{"", 0},
		{"123456789", 0xcbf43926},
		{"a", 0xe8b7be43},
		{"abc", 0x352441c2},
		{"\x00", 0xd202ef8d},
		{"\xff", 0xff000000},
		{"\x00\x00\x00\x00", 0x2144df1c},
		{"\xff\xff\xff\xff", 0xffffffff},
		{"The quick brown fox jumps over the lazy dog", 0x414fa339},
	} {
		if got := Sum([]byte(c.text)); got != c.want {
			t.Errorf("Sum(%q): %#x instead of %#x", c.text, got, c.want)
		}
		var s uint32
		for _, b := range []byte(c.text) {
			s = Next(s, b)
		}
		if s != c.want {
			t.Errorf("Next by Next of %q: %#x instead of %#x", c.text, s, c.want)
		}
	}
}

// P4.1: each byte alone, and any bytes, held against the division spelt bit by bit and against the library's.
func TestSumOfAnyBytes(t *testing.T) {
	for i := range 256 {
		b := []byte{byte(i)}
		if got := Sum(b); got != model(b) {
			t.Errorf("Sum(%x): %#x instead of %#x", b, got, model(b))
		}
	}
	r := rand.New(rand.NewSource(1))
	for range 3000 {
		b := anyBytes(r, 100)
		if got := Sum(b); got != model(b) || got != crc32.ChecksumIEEE(b) {
			t.Fatalf("Sum(%x): %#x instead of %#x", b, got, model(b))
		}
	}
	b := anyBytes(r, 1<<20)
	if got := Sum(b); got != crc32.ChecksumIEEE(b) {
		t.Errorf("Sum of %d bytes: %#x", len(b), got)
	}
}

// P4.1: of no parts, nil ones and empty ones the sum is that of no bytes.
func TestSumOfNothing(t *testing.T) {
	for _, parts := range [][][]byte{nil, {}, {nil}, {{}}, {nil, {}, nil}} {
		if got := Sum(parts...); got != 0 {
			t.Errorf("Sum of %d parts with nothing in them: %#x", len(parts), got)
		}
	}
}

// P4.1: however bytes are cut into parts, the sum is that of all of them in this order.
func TestSumOfParts(t *testing.T) {
	b := []byte("123456789")
	for i := range len(b) + 1 {
		for j := i; j <= len(b); j++ {
			if got := Sum(b[:i], b[i:j], nil, b[j:]); got != 0xcbf43926 {
				t.Errorf("Sum of parts cut at %d and %d: %#x", i, j, got)
			}
		}
	}
	if got := Sum([]byte("56789"), []byte("1234")); got != model([]byte("567891234")) {
		t.Errorf("Sum of the parts the other way round: %#x", got)
	}
	r := rand.New(rand.NewSource(2))
	for range 1000 {
		var parts [][]byte
		var all []byte
		for range r.Intn(20) {
			parts = append(parts, anyBytes(r, 9))
			all = append(all, parts[len(parts)-1]...)
		}
		if got := Sum(parts...); got != model(all) {
			t.Fatalf("Sum of %x: %#x instead of %#x", parts, got, model(all))
		}
	}
}

// P4.1: Next goes on from any sum, and from any bytes that have it.
func TestNext(t *testing.T) {
	for i := range 256 {
		if got := Next(0, byte(i)); got != model([]byte{byte(i)}) {
			t.Errorf("Next(0, %d): %#x", i, got)
		}
	}
	r := rand.New(rand.NewSource(3))
	for range 3000 {
		b := anyBytes(r, 40)
		c := byte(r.Intn(256))
		if got := Next(model(b), c); got != model(append(bytes.Clone(b), c)) {
			t.Fatalf("Next(%#x, %d): %#x", model(b), c, got)
		}
	}
	for range 3000 {
		s, c := r.Uint32(), byte(r.Intn(256))
		if got := Next(s, c); got != crc32.Update(s, crc32.IEEETable, []byte{c}) {
			t.Fatalf("Next(%#x, %d): %#x", s, c, got)
		}
	}
	for _, s := range []uint32{0, 1, 0x80000000, math.MaxUint32} {
		for _, c := range []byte{0, 1, 0x80, 0xff} {
			if got := Next(s, c); got != crc32.Update(s, crc32.IEEETable, []byte{c}) {
				t.Errorf("Next(%#x, %d): %#x", s, c, got)
			}
		}
	}
}

// P4.1: Seal lays the sum behind the bytes, the lowest of it first; Open takes it off again.
func TestSealAndOpen(t *testing.T) {
	if got := Seal([]byte("123456789")); string(got) != "123456789\x26\x39\xf4\xcb" {
		t.Errorf("Seal of the digits: %x", got)
	}
	for _, b := range [][]byte{nil, {}} {
		if got := Seal(b); !bytes.Equal(got, []byte{0, 0, 0, 0}) {
			t.Errorf("Seal of nothing: %x", got)
		}
	}
	if got, ok := Open([]byte{0, 0, 0, 0}); len(got) != 0 || !ok {
		t.Errorf("Open of nothing's seal: %x, %v", got, ok)
	}
	r := rand.New(rand.NewSource(4))
	for range 3000 {
		b := anyBytes(r, 60)
		got := Seal(b)
		if !bytes.Equal(got, sealed(b)) {
			t.Fatalf("Seal(%x): %x instead of %x", b, got, sealed(b))
		}
		if back, ok := Open(got); !bytes.Equal(back, b) || !ok {
			t.Fatalf("Open(%x): %x, %v", got, back, ok)
		}
		twice := Seal(got)
		if back, ok := Open(twice); !bytes.Equal(back, got) || !ok {
			t.Fatalf("Open(%x): %x, %v", twice, back, ok)
		}
	}
}

// P4.1: of fewer than four bytes, of a seal that is cut or has more behind it, of a sum laid another way: false.
func TestOpenOfWrongBytes(t *testing.T) {
	for _, b := range [][]byte{
		nil, {}, {0}, {0, 0}, {0, 0, 0}, {0xff, 0xff, 0xff},
		{1, 0, 0, 0}, {0, 1, 0, 0}, {0, 0, 1, 0}, {0, 0, 0, 1}, {0xff, 0xff, 0xff, 0xff},
		{0, 0, 0, 0, 0}, {0, 0, 0, 0, 0, 0, 0, 0},
		[]byte("123456789"),
		[]byte("123456789\xcb\xf4\x39\x26"),
		[]byte("\x26\x39\xf4\xcb123456789"),
		[]byte("123456789\xd9\xc6\x0b\x34"),
	} {
		opensNot(t, b)
	}
	whole := Seal([]byte("123456789"))
	for n := range whole {
		opensNot(t, whole[:n])
	}
	for n := 1; n < len(whole); n++ {
		opensNot(t, whole[n:])
	}
	opensNot(t, append(bytes.Clone(whole), 0))
}

// P4.1: whatever bytes, Open tells those whose Seal they are, and there are none if Seal tells other bytes.
func TestOpenOfAnyBytes(t *testing.T) {
	r := rand.New(rand.NewSource(5))
	for range 20000 {
		b := anyBytes(r, 12)
		want := len(b) >= 4 && bytes.Equal(sealed(b[:len(b)-4]), b)
		got, ok := Open(b)
		if ok != want || ok && !bytes.Equal(got, b[:len(b)-4]) || !ok && len(got) != 0 {
			t.Fatalf("Open(%x): %x, %v", b, got, ok)
		}
	}
}

// P4.1, and what holds everywhere: what is handed in stays as it is, the room behind it too, and isn't shared with what is answered.
func TestNewMemory(t *testing.T) {
	room := []byte("abc\x11\x12\x13\x14\x15")
	before := bytes.Clone(room)
	b := room[:3]
	first, second := Seal(b), Seal(b)
	Sum(b, b)
	if !bytes.Equal(room, before) {
		t.Errorf("Seal or Sum changed %x to %x", before, room)
	}
	first[0], first[6] = 'x', 'x'
	if string(b) != "abc" || !bytes.Equal(second, sealed([]byte("abc"))) {
		t.Error("a change to what Seal answered is to be seen elsewhere")
	}
	b[0] = 'y'
	if !bytes.Equal(second, sealed([]byte("abc"))) {
		t.Error("what Seal answered changes with what it was given")
	}
	one, _ := Open(second)
	two, _ := Open(second)
	one[0] = 'x'
	_ = append(one, 'x', 'x', 'x', 'x')
	if string(two) != "abc" || !bytes.Equal(second, sealed([]byte("abc"))) {
		t.Error("a change to what Open answered is to be seen elsewhere")
	}
	second[1] = 'y'
	if string(two) != "abc" {
		t.Error("what Open answered changes with what it was given")
	}
}

// forget leaves the package as it is ahead of its first call.
func forget() {
	once = sync.Once{}
	table = [256]uint32{}
}

// P4.1: whichever call is the first tells what it tells later.
func TestFirstCall(t *testing.T) {
	seal := sealed([]byte("123456789"))
	for range 2 {
		forget()
		if got := Sum([]byte("123456789")); got != 0xcbf43926 {
			t.Errorf("Sum as the first call: %#x", got)
		}
		forget()
		if got := Next(model([]byte("12345678")), '9'); got != 0xcbf43926 {
			t.Errorf("Next as the first call: %#x", got)
		}
		forget()
		if got := Seal([]byte("123456789")); !bytes.Equal(got, seal) {
			t.Errorf("Seal as the first call: %x", got)
		}
		forget()
		if got, ok := Open(seal); string(got) != "123456789" || !ok {
			t.Errorf("Open as the first call: %q, %v", got, ok)
		}
	}
}

// P4.1: Sum, Seal and Open go without the table; the first Next fills it, with what each byte leaves behind.
func TestTable(t *testing.T) {
	forget()
	Sum([]byte("123456789"))
	Open(Seal([]byte("123456789")))
	if table != [256]uint32{} {
		t.Error("Sum, Seal or Open filled the table")
	}
	for range 2 {
		Next(0, 0)
		if crc32.Table(table) != *crc32.IEEETable {
			t.Errorf("the table behind Next: %#x", table)
		}
	}
}

// P4.1: many first calls at the same time tell what one alone tells.
func TestFirstCallsAtTheSameTime(t *testing.T) {
	text := []byte("123456789")
	seal := sealed(text)
	for range 200 {
		forget()
		var all sync.WaitGroup
		start := make(chan struct{})
		for i := range 16 {
			all.Go(func() {
				<-start
				next := Next(uint32(i), '9')
				got, ok := Open(seal)
				if next != crc32.Update(uint32(i), crc32.IEEETable, []byte("9")) || Sum(text) != 0xcbf43926 || !bytes.Equal(Seal(text), seal) || string(got) != "123456789" || !ok {
					t.Error("a call beside others tells something else")
				}
			})
		}
		close(start)
		all.Wait()
	}
}

// P4.2: every burst of few bits, at every place of bytes and of their seal.
func TestShortBursts(t *testing.T) {
	for _, b := range [][]byte{[]byte("12"), {0, 0, 0, 0, 0}, {0xff, 0xff}} {
		whole := Seal(b)
		for mask := uint32(1); mask < 1<<10; mask += 2 {
			for from := 0; from+bits.Len32(mask) <= 8*len(whole); from++ {
				opensNot(t, flipped(whole, from, mask))
				if from+bits.Len32(mask) <= 8*len(b) && Sum(flipped(b, from, mask)) == Sum(b) {
					t.Errorf("%x with %#x turned from bit %d on has the same sum", b, mask, from)
				}
			}
		}
	}
}

// P4.2: long bursts, up to all 32 bits, at any place of any bytes, in one part or across several.
func TestLongBursts(t *testing.T) {
	r := rand.New(rand.NewSource(6))
	for range 20000 {
		b := append(anyBytes(r, 40), 1, 2, 3, 4)
		mask := r.Uint32() | 1
		if r.Intn(4) == 0 {
			mask = math.MaxUint32 >> r.Intn(32)
		}
		from := r.Intn(8*len(b) - bits.Len32(mask) + 1)
		c := flipped(b, from, mask)
		cut := r.Intn(len(b) + 1)
		if Sum(c[:cut], c[cut:]) == Sum(b) {
			t.Fatalf("%x with %#x turned from bit %d on has the same sum", b, mask, from)
		}
		whole := Seal(b)
		from = r.Intn(8*len(whole) - bits.Len32(mask) + 1)
		opensNot(t, flipped(whole, from, mask))
	}
}

// P4.2: no choice of 32 bits side by side leaves the sum as it was: what each of them turns in it comes of no others of them, and what several turn is what each one turns.
func TestNoBurstIsLost(t *testing.T) {
	r := rand.New(rand.NewSource(7))
	zeros := make([]byte, 24)
	none := Sum(zeros)
	for from := 0; from+32 <= 8*len(zeros); from++ {
		var turns [32]uint32
		for i := range turns {
			turns[i] = Sum(flipped(zeros, from+i, 1)) ^ none
		}
		for range 20 {
			b := make([]byte, len(zeros))
			r.Read(b)
			mask := r.Uint32()
			var want uint32
			for i, turn := range turns {
				want ^= turn * (mask >> i & 1)
			}
			if Sum(flipped(b, from, mask))^Sum(b) != want {
				t.Fatalf("%#x from bit %d on turns other bits of the sum than its bits do one by one", mask, from)
			}
		}
		if n := rank(turns); n != 32 {
			t.Fatalf("of the 32 bits from %d on only %d count", from, n)
		}
	}
}

// rank tells how many of l come of no others of them by exclusive or.
func rank(l [32]uint32) int {
	n := 0
	for bit := range 32 {
		at := n
		for at < len(l) && l[at]>>bit&1 == 0 {
			at++
		}
		if at == len(l) {
			continue
		}
		l[n], l[at] = l[at], l[n]
		for i := range l {
			if i != n && l[i]>>bit&1 == 1 {
				l[i] ^= l[n]
			}
		}
		n++
	}
	return n
}
