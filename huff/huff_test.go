package huff

import (
	"bytes"
	"encoding/binary"
	"fmt"
	"math/rand"
	"slices"
	"strings"
	"testing"

	"archipelago/api"
	"archipelago/merge"
)

// written tells what Put of b should be, by the chapter's words: numbers by the library, codes as texts of 0s and 1s.
func written(b []byte) []byte {
	out := binary.AppendUvarint(nil, uint64(len(b)))
	if len(b) == 0 {
		return out
	}
	var present []int
	for v := range 256 {
		if bytes.IndexByte(b, byte(v)) >= 0 {
			present = append(present, v)
		}
	}
	counts := make([]int, 256)
	for _, v := range present {
		counts[v] = bytes.Count(b, []byte{byte(v)})
	}
	lengths := merge.Lengths(counts, 15)
	out = binary.AppendUvarint(out, uint64(len(present)))
	for i, v := range present {
		gap := v
		if i > 0 {
			gap = v - (present[i-1] + 1)
		}
		out = binary.AppendUvarint(out, uint64(gap))
		out = binary.AppendUvarint(out, uint64(lengths[v]))
	}
	codes := spelt(lengths)
	var text strings.Builder
	for _, v := range b {
		text.WriteString(codes[v])
	}
	return append(out, packed(text.String())...)
}

// spelt tells the canonical code of each value as a text, "" of one that has none.
func spelt(lengths []int) []string {
	texts := make([]string, len(lengths))
	last := ""
	for n := 1; n <= 15; n++ {
		for v, length := range lengths {
			if length != n {
				continue
			}
			if last != "" {
				i := strings.LastIndexByte(last, '0')
				last = last[:i] + "1" + strings.Repeat("0", len(last)-i-1)
			}
			last += strings.Repeat("0", n-len(last))
			texts[v] = last
		}
	}
	return texts
}

// packed tells the bytes of a text of bits, the last one filled up with 0.
func packed(text string) []byte {
	b := make([]byte, (len(text)+7)/8)
	for i, c := range text {
		if c == '1' {
			b[i/8] += 1 << (i % 8)
		}
	}
	return b
}

// fibonacci tells bytes of n values, each of which comes as often as the two ahead of it together: codes as long as codes get.
func fibonacci(n int) []byte {
	var b []byte
	count, next := 1, 1
	for v := range n {
		b = append(b, bytes.Repeat([]byte{byte(v * 7)}, count)...)
		count, next = next, count+next
	}
	return b
}

// lists tells bytes of all kinds: edges first, then random ones of few and of many values.
func lists() [][]byte {
	all := make([]byte, 256)
	for i := range all {
		all[i] = byte(255 - i)
	}
	out := [][]byte{
		nil, {0}, {255}, {0, 255}, {255, 0}, {0, 1}, {254, 255},
		{0, 127}, {0, 128}, {0, 129}, // gaps of one byte and of two
		{127}, {128}, {129},
		all, all[:255], all[1:], all[:128], all[128:], append(slices.Clone(all), all[:100]...),
		[]byte("archipelago: islands that join and part"),
		fibonacci(3), fibonacci(15), fibonacci(16), fibonacci(17), fibonacci(20),
	}
	for _, n := range []int{1, 7, 8, 9, 15, 16, 17, 127, 128, 129, 1000, 16383, 16384} {
		out = append(out, bytes.Repeat([]byte{'x'}, n))
	}
	rnd := rand.New(rand.NewSource(7))
	for range 300 {
		values := 1 + rnd.Intn([]int{2, 5, 20, 256}[rnd.Intn(4)])
		b := make([]byte, rnd.Intn(600))
		for i := range b {
			b[i] = byte(rnd.Intn(1+rnd.Intn(values)) * 37)
		}
		out = append(out, b)
	}
	return out
}

// short tells b as far as a message has room for it.
func short(b []byte) string {
	if len(b) > 40 {
		return fmt.Sprintf("%x.. (%d)", b[:40], len(b))
	}
	return fmt.Sprintf("%x", b)
}

// refused fails unless Read tells ErrForm of b, and nothing beside it.
func refused(t *testing.T, why string, b []byte) {
	t.Helper()
	if got, e := Read(b); got != nil || e != api.ErrForm {
		t.Errorf("%s: Read(%s): %s, %d", why, short(b), short(got), e)
	}
}

// P7.1: Counts(b): of each of 256 byte values how often it is in b.
func TestCounts(t *testing.T) {
	for _, b := range append(lists(), []byte{}) {
		got := Counts(b)
		if len(got) != 256 {
			t.Fatalf("Counts(%s): %d of them", short(b), len(got))
		}
		for v, n := range got {
			if want := bytes.Count(b, []byte{byte(v)}); n != want {
				t.Errorf("Counts(%s): %d of %d instead of %d", short(b), n, v, want)
			}
		}
	}
}

// P7.1: Put at values worked out by hand.
func TestPutExamples(t *testing.T) {
	for _, c := range []struct {
		text string
		want []byte
	}{
		{"", []byte{0}},
		{"a", []byte{1, 1, 97, 1, 0}},
		{"aaaaaaaa", []byte{8, 1, 97, 1, 0}},
		{"aaaaaaaaa", []byte{9, 1, 97, 1, 0, 0}},
		{"ab", []byte{2, 2, 97, 1, 0, 1, 2}},
		{"ba", []byte{2, 2, 97, 1, 0, 1, 1}},
		{"abbcc", []byte{5, 3, 97, 2, 0, 2, 0, 1, 0b00111101}}, // a 10, b 11, c 0
		{"\x00\x80", []byte{2, 2, 0, 1, 127, 1, 2}},
		{"\x00\x81", []byte{2, 2, 0, 1, 128, 1, 1, 2}},
	} {
		if got := Put([]byte(c.text)); !bytes.Equal(got, c.want) {
			t.Errorf("Put(%q): %d instead of %d", c.text, got, c.want)
		}
	}
	if got := Put([]byte{}); !bytes.Equal(got, []byte{0}) {
		t.Errorf("Put of an empty list that isn't nil: %d", got)
	}
}

// P7.1: Put(b) is what the chapter's words make of b, and Read tells b of it.
func TestPutAndRead(t *testing.T) {
	for _, b := range lists() {
		want := written(b)
		if got := Put(b); !bytes.Equal(got, want) {
			t.Errorf("Put(%s): %s instead of %s", short(b), short(got), short(want))
		}
		if got, e := Read(want); !bytes.Equal(got, b) || e != api.OK {
			t.Errorf("Read(%s): %s, %d instead of %s", short(want), short(got), e, short(b))
		}
	}
}

// P7.1: no code is longer than 15 bits, and that long ones there are.
func TestLongestCode(t *testing.T) {
	for values, longest := range map[int]byte{15: 14, 16: 15, 17: 15, 20: 15} {
		out := Put(fibonacci(values))
		_, n := binary.Uvarint(out)
		if int(out[n]) != values {
			t.Fatalf("%d values instead of %d", out[n], values)
		}
		most := byte(0)
		for i := range values {
			most = max(most, out[n+2+2*i]) // a number of each is one byte: gaps are 6
		}
		if most != longest {
			t.Errorf("%d values: %d bits instead of %d", values, most, longest)
		}
	}
}

// P7.1: ErrForm, wherever it is wrong.
func TestReadWrong(t *testing.T) {
	long := []byte{255, 255, 255, 255, 255, 255, 255, 255, 255, 1}
	for why, b := range map[string][]byte{
		"nothing":                        nil,
		"an empty list":                  {},
		"no end of the count":            {0x84},
		"a count of 0 in two bytes":      {0x80, 0},
		"a count in two bytes":           {0x84, 0, 1, 97, 1, 0},
		"a count of 65 bits":             {255, 255, 255, 255, 255, 255, 255, 255, 255, 2, 1, 97, 1, 0},
		"the greatest count":             append(slices.Clone(long), 1, 97, 1, 0),
		"a count of 63 bits":             {255, 255, 255, 255, 255, 255, 255, 255, 127, 1, 97, 1, 0},
		"a count of 2^40":                {128, 128, 128, 128, 128, 32, 1, 97, 1, 0},
		"a byte behind none":             {0, 0},
		"values behind none":             {0, 1, 97, 1, 0},
		"no values":                      {4},
		"no values, and end":             {4, 0},
		"no values, and bits":            {4, 0, 0},
		"values in two bytes":            {4, 0x81, 0, 97, 1, 0},
		"257 values":                     {4, 0x81, 2, 97, 1, 0},
		"the greatest number of values":  append(append([]byte{4}, long...), 97, 1, 0),
		"no value":                       {4, 1},
		"no end of a value":              {4, 1, 0x80},
		"a value in two bytes":           {4, 1, 0xe1, 0, 1, 0},
		"a value of 256":                 {4, 1, 0x80, 2, 1, 0},
		"the greatest value":             append(append([]byte{4, 1}, long...), 1, 0),
		"a second value of 256":          {2, 2, 97, 1, 158, 1, 1, 2},
		"a value behind 255":             {2, 2, 255, 1, 1, 0, 1, 2},
		"no length":                      {4, 1, 97},
		"a length of 0":                  {4, 1, 97, 0, 0},
		"a length of 0 of two":           {2, 2, 97, 1, 0, 0, 0},
		"a length in two bytes":          {4, 1, 97, 0x81, 0, 0},
		"a length of 16":                 {4, 1, 97, 16, 0},
		"the greatest length":            append(append([]byte{4, 1, 97}, long...), 0),
		"a single one of 2 bits":         {4, 1, 97, 2, 0},
		"lengths with room left":         {3, 2, 97, 1, 0, 2, 4},
		"lengths without room":           {3, 3, 97, 1, 0, 1, 0, 1, 4},
		"lengths that Put doesn't give":  {3, 3, 97, 1, 0, 2, 0, 2, 26},
		"lengths changed about":          {5, 3, 97, 1, 0, 2, 0, 2, 0xea, 1},
		"no codes":                       {4, 1, 97, 1},
		"fewer codes":                    {9, 1, 97, 1, 0},
		"a code that ends within":        {5, 3, 97, 2, 0, 2, 0, 1, 0xfe},
		"the bit of no code":             {4, 1, 97, 1, 1},
		"filled up with 1":               {4, 1, 97, 1, 128},
		"filled up with 1, ahead of all": {4, 1, 97, 1, 16},
		"a byte behind":                  {4, 1, 97, 1, 0, 0},
		"a value that doesn't come":      {2, 2, 97, 1, 0, 1, 0},
		"bits of all 1":                  {4, 2, 97, 1, 0, 1, 255},
	} {
		refused(t, why, b)
	}
}

// P7.1: what ends within, and what has more behind it, is none.
func TestReadCut(t *testing.T) {
	for _, b := range lists() {
		out := Put(b)
		for n := range min(len(out), 300) {
			refused(t, "cut", out[:n])
		}
		refused(t, "cut by one", out[:len(out)-1])
		for _, x := range []byte{0, 1, 128, 255} {
			refused(t, "more behind", append(slices.Clone(out), x))
		}
	}
}

// every tells all lists of up to most bytes below values.
func every(most, values int, tell func(b []byte)) {
	var longer func(b []byte)
	longer = func(b []byte) {
		tell(b)
		for v := 0; v < values && len(b) < most; v++ {
			longer(append(slices.Clone(b), byte(v)))
		}
	}
	longer(nil)
}

// P7.2: there is one way to write it: of all short lists just those are read that are a Put, and each tells what it is the Put of.
func TestOneWay(t *testing.T) {
	from := map[string]string{}
	// Seven bytes below 5 have a count below 5, two values at most, and these below 10.
	every(4, 10, func(b []byte) {
		out := string(written(b))
		if other, ok := from[out]; ok {
			t.Errorf("%x is written as %x is", b, other)
		}
		from[out] = string(b)
	})
	read := 0
	every(7, 5, func(b []byte) {
		got, e := Read(b)
		want, ok := from[string(b)]
		if ok != (e == api.OK) || string(got) != want || !ok && e != api.ErrForm {
			t.Errorf("Read(%x): %x, %d instead of %x, %v", b, got, e, want, ok)
		}
		if ok {
			read++
		}
	})
	if read < 40 {
		t.Errorf("only %d were read", read)
	}
}

// P7.2: a Put that is changed in any bit is no Put, or that of other bytes.
func TestChanged(t *testing.T) {
	for _, b := range lists() {
		out := Put(b)
		if len(out) > 120 {
			continue
		}
		for i := range 8 * len(out) {
			x := slices.Clone(out)
			x[i/8] ^= 1 << (i % 8)
			got, e := Read(x)
			if e == api.OK && (bytes.Equal(got, b) || !bytes.Equal(written(got), x)) {
				t.Errorf("Read(%s): %s, which is written otherwise", short(x), short(got))
			}
			if e != api.OK && (e != api.ErrForm || got != nil) {
				t.Errorf("Read(%s): %s, %d", short(x), short(got), e)
			}
		}
	}
}

// P7.2: bytes of no sense are none, or a Put.
func TestAnyBytes(t *testing.T) {
	rnd := rand.New(rand.NewSource(72))
	for range 50000 {
		b := make([]byte, rnd.Intn(40))
		for i := range b {
			b[i] = byte(rnd.Intn(1 << rnd.Intn(9)))
		}
		got, e := Read(b)
		if e == api.OK && !bytes.Equal(written(got), b) || e != api.OK && (e != api.ErrForm || got != nil) {
			t.Errorf("Read(%s): %s, %d", short(b), short(got), e)
		}
	}
}

// What is handed in stays as it is, the room behind it too, and what is answered is new memory.
func TestMemory(t *testing.T) {
	for _, b := range lists() {
		room := append(slices.Clone(b), "room behind"...)
		same := slices.Clone(room)
		out := Put(room[:len(b)])
		Counts(room[:len(b)])
		if !bytes.Equal(room, same) {
			t.Fatalf("Put or Counts changed %s", short(b))
		}
		clear(room)
		if !bytes.Equal(out, written(b)) {
			t.Fatalf("Put(%s) shares memory", short(b))
		}

		room = append(slices.Clone(out), "room behind"...)
		same = slices.Clone(room)
		got, e := Read(room[:len(out)])
		if e != api.OK || !bytes.Equal(room, same) {
			t.Fatalf("Read(%s) changed it", short(out))
		}
		clear(room)
		if !bytes.Equal(got, b) {
			t.Fatalf("Read(%s) shares memory", short(out))
		}
	}
	first, second := Put([]byte("aab")), Put([]byte("aab"))
	clear(first)
	if !bytes.Equal(second, written([]byte("aab"))) {
		t.Error("two answers share memory")
	}
	counts := Counts(nil)
	counts[5] = 9
	if Counts(nil)[5] != 0 {
		t.Error("two Counts share memory")
	}
}
