package merge

import (
	"math"
	"math/rand"
	"slices"
	"sort"
	"testing"
)

// pile is a coin or a package with all the symbols in it.
type pile struct {
	count int
	in    []int
}

// held tells what a count counts as.
func held(count int) int {
	if count < 0 {
		return 0
	}
	if count > 1<<40 {
		return 1 << 40
	}
	return count
}

// model tells the lengths as the chapter spells them: each list written out, each package with the symbols in it.
func model(counts []int, most int) []int {
	if most < 1 {
		most = 1
	}
	if most > 15 {
		most = 15
	}
	var coins []pile
	for symbol, count := range counts {
		if held(count) != 0 {
			coins = append(coins, pile{held(count), []int{symbol}})
		}
	}
	m := len(coins)
	if len(counts) > 256 || float64(m) > math.Pow(2, float64(most)) {
		return nil
	}
	lengths := make([]int, len(counts))
	if m == 1 {
		lengths[coins[0].in[0]] = 1
	}
	if m < 2 {
		return lengths
	}
	byCount := func(l []pile) { sort.SliceStable(l, func(i, j int) bool { return l[i].count < l[j].count }) }
	byCount(coins)
	list := coins
	for range most - 1 {
		next := slices.Clone(coins)
		for ; len(list) >= 2; list = list[2:] {
			next = append(next, pile{list[0].count + list[1].count, slices.Concat(list[0].in, list[1].in)})
		}
		byCount(next)
		list = next
	}
	for _, p := range list[:2*m-2] {
		for _, symbol := range p.in {
			lengths[symbol]++
		}
	}
	return lengths
}

// anyCounts tells up to n counts, small ones that are often alike, or of any size.
func anyCounts(r *rand.Rand, n int) []int {
	counts := make([]int, r.Intn(n+1))
	kind := r.Intn(5)
	for i := range counts {
		switch kind {
		case 0:
			counts[i] = r.Intn(4)
		case 1:
			counts[i] = r.Intn(30) - 3
		case 2:
			counts[i] = 1 << r.Intn(40)
		case 3:
			counts[i] = int(r.Uint64() >> r.Intn(64))
		default:
			counts[i] = 1
		}
	}
	return counts
}

// fibonacci tells counts whose codes are as long as codes can be.
func fibonacci(n int) []int {
	counts := []int{1, 1}
	for len(counts) < n {
		counts = append(counts, counts[len(counts)-1]+counts[len(counts)-2])
	}
	return counts
}

// ones tells n times 1.
func ones(n int) []int {
	return slices.Repeat([]int{1}, n)
}

// P5.1: the document's example, and lengths worked out by hand, those of like counts among them.
func TestKnownLengths(t *testing.T) {
	for _, c := range []struct {
		counts []int
		most   int
		want   []int
	}{
		{[]int{1, 1, 2}, 15, []int{2, 2, 1}},
		{[]int{2, 1, 1}, 15, []int{1, 2, 2}},
		{[]int{1, 2, 1}, 15, []int{2, 1, 2}},
		{[]int{1, 1, 1}, 15, []int{2, 2, 1}},
		{[]int{5, 0, 5, 0, 5}, 2, []int{2, 0, 2, 0, 1}},
		{[]int{3, 4}, 15, []int{1, 1}},
		{[]int{1, 1, 2, 2}, 15, []int{2, 2, 2, 2}},
		{[]int{2, 2, 1, 1}, 15, []int{2, 2, 2, 2}},
		{[]int{1, 2, 3, 4}, 15, []int{3, 3, 2, 1}},
		{[]int{1, 2, 3, 4}, 2, []int{2, 2, 2, 2}},
		{[]int{1, 1, 2, 4, 8}, 15, []int{4, 4, 3, 2, 1}},
		{[]int{1, 1, 2, 4, 8}, 4, []int{4, 4, 3, 2, 1}},
		{[]int{1, 1, 2, 4, 8}, 3, []int{3, 3, 3, 3, 1}},
		{[]int{8, 4, 2, 1, 1}, 3, []int{1, 3, 3, 3, 3}},
		{[]int{1, 1, 2, 4, 8}, 2, nil},
		{[]int{1, 1, 1, 1, 1}, 3, []int{3, 3, 2, 2, 2}},
	} {
		if got := Lengths(c.counts, c.most); !slices.Equal(got, c.want) {
			t.Errorf("Lengths(%v, %d): %v instead of %v", c.counts, c.most, got, c.want)
		}
	}
}

// P5.1: of no counts, of none that isn't 0, and of a single one, wherever it stands.
func TestLengthsOfFew(t *testing.T) {
	for _, most := range []int{math.MinInt, -1, 0, 1, 8, 15, 16, math.MaxInt} {
		for _, counts := range [][]int{nil, {}, {0}, {0, 0, 0}, {-1, math.MinInt, 0}, make([]int, 256)} {
			if got := Lengths(counts, most); !slices.Equal(got, make([]int, len(counts))) {
				t.Errorf("Lengths(%v, %d): %v", counts, most, got)
			}
		}
		for _, n := range []int{1, 2, 5, 256} {
			for at := range n {
				counts := make([]int, n)
				for _, count := range []int{1, 7, 1 << 40, math.MaxInt} {
					counts[at] = count
					want := make([]int, n)
					want[at] = 1
					if got := Lengths(counts, most); !slices.Equal(got, want) {
						t.Fatalf("Lengths of %d alone at %d of %d, %d: %v", count, at, n, most, got)
					}
				}
			}
		}
	}
}

// P5.1: any counts, each most, held against the lists as the chapter spells them.
func TestLengthsOfAnyCounts(t *testing.T) {
	r := rand.New(rand.NewSource(1))
	for range 3000 {
		counts := anyCounts(r, 12)
		for most := -1; most <= 17; most++ {
			if got, want := Lengths(counts, most), model(counts, most); !slices.Equal(got, want) {
				t.Fatalf("Lengths(%v, %d): %v instead of %v", counts, most, got, want)
			}
		}
	}
	for range 300 {
		counts := anyCounts(r, 260)
		for most := 6; most <= 15; most++ {
			if got, want := Lengths(counts, most), model(counts, most); !slices.Equal(got, want) {
				t.Fatalf("Lengths(%v, %d): %v instead of %v", counts, most, got, want)
			}
		}
	}
}

// P5.1: each list of few small counts, where many are alike.
func TestLengthsOfAllSmallCounts(t *testing.T) {
	for n := range 7 {
		for code := range int(math.Pow(4, float64(n))) {
			counts := make([]int, n)
			for i := range counts {
				counts[i] = code >> (2 * i) & 3
			}
			for most := 1; most <= 5; most++ {
				if got, want := Lengths(counts, most), model(counts, most); !slices.Equal(got, want) {
					t.Fatalf("Lengths(%v, %d): %v instead of %v", counts, most, got, want)
				}
			}
		}
	}
}

// P5.1: most counts as 1 to 15; no code is longer, and one of 15 is if it may be.
func TestMost(t *testing.T) {
	for _, most := range []int{math.MinInt, -15, -1, 0} {
		if got := Lengths([]int{9, 9}, most); !slices.Equal(got, []int{1, 1}) {
			t.Errorf("Lengths of two, %d: %v", most, got)
		}
		if got := Lengths([]int{9, 9, 9}, most); len(got) != 0 {
			t.Errorf("Lengths of three, %d: %v", most, got)
		}
	}
	for n := 2; n <= 40; n++ {
		counts := fibonacci(n)
		for most := 1; most <= 15; most++ {
			longest := 0
			if got := Lengths(counts, most); len(got) != 0 {
				longest = slices.Max(got)
			}
			want := min(n-1, most)
			if n > 1<<most {
				want = 0
			}
			if longest != want {
				t.Errorf("Lengths of %d counts, %d: up to %d", n, most, longest)
			}
		}
		for _, most := range []int{16, 17, 63, 64, 99, math.MaxInt} {
			if got := Lengths(counts, most); !slices.Equal(got, model(counts, 15)) {
				t.Errorf("Lengths of %d counts, %d: %v", n, most, got)
			}
		}
	}
}

// P5.1: at most 256 counts, of which at most 2^most aren't 0; of one more nothing.
func TestTooMany(t *testing.T) {
	if got := Lengths(ones(256), 8); !slices.Equal(got, slices.Repeat([]int{8}, 256)) {
		t.Errorf("Lengths of 256: %v", got)
	}
	for _, counts := range [][]int{ones(257), make([]int, 257), append(make([]int, 256), 1), append(make([]int, 256), -1), ones(1000), ones(1 << 15)} {
		if got := Lengths(counts, 15); len(got) != 0 {
			t.Errorf("Lengths of %d counts: %v", len(counts), got)
		}
	}
	for most := 1; most < 8; most++ {
		full := ones(1 << most)
		if got := Lengths(full, most); !slices.Equal(got, slices.Repeat([]int{most}, 1<<most)) {
			t.Errorf("Lengths of %d, %d: %v", len(full), most, got)
		}
		if got := Lengths(append(full, 1), most); len(got) != 0 {
			t.Errorf("Lengths of %d, %d: %v", len(full)+1, most, got)
		}
		zeros := append(slices.Clone(full), 0, -1, math.MinInt)
		want := append(slices.Repeat([]int{most}, 1<<most), 0, 0, 0)
		if got := Lengths(zeros, most); !slices.Equal(got, want) {
			t.Errorf("Lengths of %d and zeros, %d: %v", len(full), most, got)
		}
	}
}

// P5.1: counts below 0 count as 0, those above 2^40 as that.
func TestCountsOutOfBounds(t *testing.T) {
	for _, c := range []struct{ counts, as []int }{
		{[]int{-1, 5, math.MinInt, 6, 7}, []int{0, 5, 0, 6, 7}},
		{[]int{1<<40 + 1, 1 << 40, 1 << 40}, []int{1 << 40, 1 << 40, 1 << 40}},
		{[]int{math.MaxInt, 1 << 41, 1 << 40}, []int{1 << 40, 1 << 40, 1 << 40}},
		{[]int{math.MaxInt, math.MaxInt, math.MaxInt - 1, 1}, []int{1 << 40, 1 << 40, 1 << 40, 1}},
		{[]int{1 << 40, 1<<40 - 1, 1 << 39, 1 << 39}, []int{1 << 40, 1<<40 - 1, 1 << 39, 1 << 39}},
	} {
		if got, want := Lengths(c.counts, 15), model(c.as, 15); !slices.Equal(got, want) {
			t.Errorf("Lengths(%v): %v instead of %v", c.counts, got, want)
		}
	}
	if got := Lengths([]int{math.MaxInt, 1 << 41, 1 << 40}, 15); !slices.Equal(got, []int{2, 2, 1}) {
		t.Errorf("Lengths of counts that are all too great: %v", got)
	}
	if got := Lengths([]int{1 << 40, 1<<40 - 1, 1<<40 - 1}, 15); !slices.Equal(got, []int{1, 2, 2}) {
		t.Errorf("Lengths of counts at 2^40 and below: %v", got)
	}
	great := slices.Repeat([]int{math.MaxInt}, 256)
	if got := Lengths(great, 15); !slices.Equal(got, Lengths(ones(256), 15)) {
		t.Errorf("Lengths of 256 great counts: %v", got)
	}
}

// P5.2: Cost, as far as both lists go, with counts as they count and lengths as they are.
func TestCost(t *testing.T) {
	for _, c := range []struct {
		counts, lengths []int
		want            int
	}{
		{nil, nil, 0},
		{[]int{}, []int{1}, 0},
		{[]int{1}, nil, 0},
		{[]int{1, 1, 2}, []int{2, 2, 1}, 6},
		{[]int{5, 7}, []int{3}, 15},
		{[]int{5}, []int{3, 9}, 15},
		{[]int{-5, 2}, []int{3, 4}, 8},
		{[]int{math.MinInt, 2}, []int{math.MaxInt, 4}, 8},
		{[]int{1 << 40}, []int{2}, 1 << 41},
		{[]int{1<<40 - 1}, []int{2}, 1<<41 - 2},
		{[]int{1<<40 + 1}, []int{2}, 1 << 41},
		{[]int{math.MaxInt}, []int{1}, 1 << 40},
		{[]int{3}, []int{-2}, -6},
		{[]int{3, 4}, []int{16, 100}, 448},
		{[]int{1}, []int{math.MaxInt}, math.MaxInt},
		{[]int{1}, []int{math.MinInt}, math.MinInt},
		{[]int{1 << 40, 1 << 40, 1 << 40}, []int{1 << 22, 1 << 22, -1 << 22}, 1 << 62},
		{ones(300), slices.Repeat([]int{2}, 300), 600},
	} {
		if got := Cost(c.counts, c.lengths); got != c.want {
			t.Errorf("Cost(%v, %v): %d instead of %d", c.counts, c.lengths, got, c.want)
		}
	}
	r := rand.New(rand.NewSource(2))
	for range 1000 {
		counts, lengths := anyCounts(r, 20), make([]int, r.Intn(20))
		want := 0
		for i := range lengths {
			lengths[i] = r.Intn(20) - 2
			if i < len(counts) {
				want += held(counts[i]) * lengths[i]
			}
		}
		if got := Cost(counts, lengths); got != want {
			t.Fatalf("Cost(%v, %v): %d instead of %d", counts, lengths, got, want)
		}
	}
}

// P5.2: Kraft, of each length alone and of several, in which those out of 1 to 15 are nothing.
func TestKraft(t *testing.T) {
	for n, want := 1, 16384; n <= 15; n, want = n+1, want/2 {
		if got := Kraft([]int{n}); got != want {
			t.Errorf("Kraft of %d: %d instead of %d", n, got, want)
		}
	}
	for _, n := range []int{0, -1, 16, 17, 63, 64, 1 << 40, math.MinInt, math.MinInt + 15, math.MaxInt} {
		if got := Kraft([]int{n}); got != 0 {
			t.Errorf("Kraft of %d: %d", n, got)
		}
	}
	for _, c := range []struct {
		lengths []int
		want    int
	}{
		{nil, 0},
		{[]int{}, 0},
		{[]int{2, 2, 1}, 1 << 15},
		{[]int{1, 1, 1}, 3 << 14},
		{[]int{15, 0, 16, -1, 15}, 2},
		{slices.Repeat([]int{8}, 256), 1 << 15},
		{ones(1 << 17), 1 << 31},
	} {
		if got := Kraft(c.lengths); got != c.want {
			t.Errorf("Kraft of %d lengths: %d instead of %d", len(c.lengths), got, c.want)
		}
	}
}

// P5.3: who comes more often has no longer code, nor has the later one of two that come as often; and the codes fill all the room there is.
func TestOftenIsShort(t *testing.T) {
	r := rand.New(rand.NewSource(3))
	for range 500 {
		counts := anyCounts(r, 256)
		for _, most := range []int{8, 9, 10, 15} {
			got := Lengths(counts, most)
			some := 0
			for i, n := range got {
				if (n == 0) != (held(counts[i]) == 0) || n < 0 || n > most {
					t.Fatalf("Lengths(%v, %d): %d at %d", counts, most, n, i)
				}
				if n != 0 {
					some++
				}
				for j := range i {
					a, b := held(counts[j]), held(counts[i])
					if a != 0 && b != 0 && (a > b && got[j] > n || a <= b && got[j] < n) {
						t.Fatalf("Lengths(%v, %d): %d at %d, %d at %d", counts, most, got[j], j, n, i)
					}
				}
			}
			if some > 1 && Kraft(got) != 1<<15 || some == 1 && Kraft(got) != 1<<14 {
				t.Fatalf("Lengths(%v, %d): Kraft %d", counts, most, Kraft(got))
			}
		}
	}
}

// least tells the least cost of codes of up to most bits, given how much of 2^most the codes may still take; every choice of lengths is tried.
func least(counts []int, most, room int) int {
	if len(counts) == 0 {
		return 0
	}
	best := math.MaxInt
	for n := 1; n <= most; n++ {
		left := room - 1<<(most-n)
		if left < len(counts)-1 {
			continue
		}
		best = min(best, counts[0]*n+least(counts[1:], most, left))
	}
	return best
}

// P5.3: no codes of up to most bits cost less.
func TestNoneCostsLess(t *testing.T) {
	r := rand.New(rand.NewSource(4))
	for range 400 {
		counts := make([]int, 2+r.Intn(5))
		for i := range counts {
			counts[i] = 1 + r.Intn(1<<r.Intn(8))
		}
		for most := 3; most <= 6; most++ {
			if got, want := Cost(counts, Lengths(counts, most)), least(counts, most, 1<<most); got != want {
				t.Fatalf("Lengths(%v, %d): cost %d instead of %d", counts, most, got, want)
			}
		}
	}
}

// P5.1, P5.2, and what holds everywhere: what is handed in stays as it is, the room behind it too, and isn't shared with what is answered.
func TestNewMemory(t *testing.T) {
	for n := range 7 {
		room := []int{4, -2, 1 << 50, 1, 7, 7, 3}
		before := slices.Clone(room)
		first, second := Lengths(room[:n], 4), Lengths(room[:n], 4)
		Cost(room[:n], room[:n])
		Kraft(room[:n])
		if !slices.Equal(room, before) {
			t.Fatalf("%v became %v", before, room)
		}
		want := slices.Clone(second)
		for i := range first {
			first[i] = 99
		}
		if !slices.Equal(room, before) || !slices.Equal(second, want) {
			t.Error("a change to what Lengths answered is to be seen elsewhere")
		}
		for i := range room {
			room[i] = 99
		}
		if !slices.Equal(second, want) {
			t.Error("what Lengths answered changes with what it was given")
		}
	}
}

// P5.1: the same again tells the same.
func TestSameAgain(t *testing.T) {
	counts := anyCounts(rand.New(rand.NewSource(5)), 256)
	want := Lengths(counts, 12)
	for range 20 {
		if got := Lengths(slices.Clone(counts), 12); !slices.Equal(got, want) {
			t.Fatalf("Lengths(%v, 12): %v, then %v", counts, want, got)
		}
	}
}
