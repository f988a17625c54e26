package depth

import (
	"container/heap"
	"math"
	"math/bits"
	"math/rand"
	"slices"
	"testing"

	"concertina/api"
)

// spread puts the numbers of l at places that are far from each other.
func spread(l ...int) [256]int {
	var a [256]int
	for i, n := range l {
		a[i*37%256] = n
	}
	return a
}

// all is 256 times n.
func all(n int) [256]int {
	var a [256]int
	for i := range a {
		a[i] = n
	}
	return a
}

// with is a with n at i.
func with(a [256]int, i, n int) [256]int {
	a[i] = n
	return a
}

// wrong is numbers that are neither lengths nor counts.
func wrong() []int {
	return []int{-1, -2, -11, -255, -1 << 20, math.MinInt32, math.MinInt, 1<<20 + 1, 1<<20 + 2, 1 << 21, math.MaxInt32, 1 << 32, 1<<32 + 1, math.MaxInt - 1, math.MaxInt}
}

func mustKraft(t *testing.T, l [256]int, want int, ok bool) {
	t.Helper()
	if got, fine := Kraft(l); got != want || fine != ok {
		t.Errorf("Kraft(%v) = %d, %v, want %d, %v", l, got, fine, want, ok)
	}
}

func mustCost(t *testing.T, count, l [256]int, want int) {
	t.Helper()
	if got := Cost(count, l); got != want {
		t.Errorf("Cost(%v, %v) = %d, want %d", count, l, got, want)
	}
}

func TestP7_1KraftKnown(t *testing.T) {
	for _, c := range []struct {
		l    []int
		want int
	}{
		{nil, 0}, {[]int{0}, 0},
		{[]int{1}, 1024}, {[]int{2}, 512}, {[]int{3}, 256}, {[]int{4}, 128}, {[]int{5}, 64}, {[]int{6}, 32},
		{[]int{7}, 16}, {[]int{8}, 8}, {[]int{9}, 4}, {[]int{10}, 2}, {[]int{api.MaxLen}, 1},
		{[]int{1, 1}, 2048}, {[]int{1, 2, 2}, 2048}, {[]int{2, 1, 2}, 2048}, {[]int{0, 2, 0, 1, 2}, 2048},
		{[]int{1, 2, 3, 4, 5, 6, 7, 8, 9, 10, 11, 11}, 2048}, {[]int{1, 2, 3, 4, 5, 6, 7, 8, 9, 10, 11}, 2047},
		{[]int{1, 2}, 1536}, {[]int{11, 11}, 2}, {[]int{1, 11}, 1025}, {[]int{1, 1, 11}, 2049}, {[]int{1, 1, 1}, 3072},
	} {
		mustKraft(t, spread(c.l...), c.want, true)
	}
	for length := 1; length <= api.MaxLen; length++ {
		mustKraft(t, all(length), 256*2048>>length, true)
	}
	mustKraft(t, all(0), 0, true)
}

func TestP7_1KraftOfEachPlace(t *testing.T) {
	for i := range 256 {
		for length := range api.MaxLen + 1 {
			want := 0
			if length > 0 {
				want = 2048 >> length
			}
			mustKraft(t, with(all(0), i, length), want, true)
			mustKraft(t, with(all(8), i, length), 2040+want, true)
		}
	}
}

func TestP7_1KraftWrong(t *testing.T) {
	for _, length := range append(wrong(), 12, 13, 22, 32, 63, 64, 65, 127, 128, 255, 256, 1<<20) {
		for i := range 256 {
			for _, l := range [][256]int{all(0), all(1), all(8), all(api.MaxLen)} {
				mustKraft(t, with(l, i, length), 0, false)
			}
		}
		mustKraft(t, all(length), 0, false)
		// Two wrong ones that would cancel out.
		mustKraft(t, with(with(all(8), 3, length), 200, -length), 0, false)
	}
}

func TestP7_1KraftRandom(t *testing.T) {
	r := rand.New(rand.NewSource(1))
	for range 2000 {
		var l [256]int
		want := 0.0
		for i := range l {
			l[i] = r.Intn(api.MaxLen + 1)
			if l[i] > 0 {
				want += math.Pow(2, float64(api.MaxLen-l[i]))
			}
		}
		mustKraft(t, l, int(want), true)
	}
}

func TestP7_1CostKnown(t *testing.T) {
	for _, c := range []struct {
		count, l []int
		want     int
	}{
		{nil, nil, 0}, {[]int{5}, nil, 0}, {nil, []int{5}, 0},
		{[]int{1}, []int{1}, 1}, {[]int{7}, []int{3}, 21}, {[]int{1, 2, 3}, []int{2, 2, 1}, 9},
		{[]int{1, 11, 21}, []int{1, 2, 2}, 65},
		// A codeword of a byte value that does not occur, and the reverse.
		{[]int{0, 4, 9}, []int{3, 2, 0}, 8},
		// Cost does not ask whether there is such a code.
		{[]int{1, 11, 21}, []int{1, 1, 1}, 33}, {[]int{1, 1}, []int{11, 11}, 22},
		{[]int{1 << 20}, []int{1}, 1 << 20}, {[]int{1 << 20}, []int{api.MaxLen}, 11 << 20},
		{[]int{1 << 20, 1 << 20, 1<<20 - 1}, []int{1, 2, 2}, 5<<20 - 2},
	} {
		mustCost(t, spread(c.count...), spread(c.l...), c.want)
	}
	mustCost(t, all(1), all(8), 2048)
	mustCost(t, all(1<<20), all(api.MaxLen), 11<<28)
	mustCost(t, all(0), all(api.MaxLen), 0)
	mustCost(t, all(1<<20), all(0), 0)
}

func TestP7_1CostOfEachPlace(t *testing.T) {
	for i := range 256 {
		mustCost(t, with(all(0), i, 100+i), all(8), 8*(100+i))
		mustCost(t, all(3), with(all(0), i, 7), 21)
		mustCost(t, with(all(2), i, 1<<20), with(all(1), i, api.MaxLen), 2*255+11<<20)
	}
}

func TestP7_1CostWrong(t *testing.T) {
	for i := range 256 {
		for _, x := range wrong() {
			mustCost(t, with(all(1), i, x), all(8), 0)
			mustCost(t, with(all(0), i, x), all(0), 0)
			mustCost(t, with(all(5), i, x), with(all(8), i, 0), 0)
			mustCost(t, all(1), with(all(8), i, x), 0)
			mustCost(t, all(1<<20), with(all(8), i, x), 0)
			mustCost(t, with(all(1), i, 0), with(all(8), i, x), 0)
			mustCost(t, all(x), all(8), 0)
			mustCost(t, all(1), all(x), 0)
			mustCost(t, all(x), all(x), 0)
		}
		mustCost(t, all(1), with(all(8), i, api.MaxLen+1), 0)
		mustCost(t, with(all(1), i, 1<<20+1), with(all(8), i, api.MaxLen+1), 0)
	}
}

func TestP7_1CostRandom(t *testing.T) {
	r := rand.New(rand.NewSource(2))
	for range 2000 {
		var count, l [256]int
		want := 0
		for i := range l {
			count[i], l[i] = r.Intn(1<<20+1), r.Intn(api.MaxLen+1)
			for range l[i] {
				want += count[i]
			}
		}
		mustCost(t, count, l, want)
	}
}

// mustLengths finds lengths for count, asks for all that holds for each result,
// and returns them.
func mustLengths(t *testing.T, count [256]int) [256]int {
	t.Helper()
	l, ok := Lengths(count)
	if !ok {
		t.Fatalf("Lengths(%v) finds none", count)
	}
	if again, _ := Lengths(count); again != l {
		t.Errorf("Lengths(%v) is not the same each time", count)
	}
	var used []int
	sum := 0
	for i, n := range count {
		if n > 0 {
			used = append(used, i)
			sum += 2048 >> max(l[i], 1)
		}
		if n > 0 && (l[i] < 1 || l[i] > api.MaxLen) || n == 0 && l[i] != 0 {
			t.Errorf("Lengths(%v)[%d] = %d", count, i, l[i])
		}
	}
	if len(used) == 1 && l[used[0]] != 1 {
		t.Errorf("Lengths(%v)[%d] = %d", count, used[0], l[used[0]])
	}
	if k, fine := Kraft(l); len(used) > 1 && (sum != 2048 || k != 2048 || !fine) {
		t.Errorf("Lengths(%v) = %v, and Kraft says %d", count, l, k)
	}
	slices.SortFunc(used, func(x, y int) int { return count[x] - count[y] })
	for i, x := range used {
		for _, y := range used[i:] {
			if count[x] < count[y] && l[x] < l[y] {
				t.Errorf("Lengths(%v) = %v: %d occurs less often than %d", count, l, x, y)
			}
		}
	}
	return l
}

func TestP7_2LengthsKnown(t *testing.T) {
	for _, c := range []struct{ count, want []int }{
		{nil, nil},
		{[]int{1}, []int{1}}, {[]int{0, 7}, []int{0, 1}}, {[]int{1 << 20}, []int{1}},
		{[]int{1, 1}, []int{1, 1}}, {[]int{1, 1 << 20}, []int{1, 1}}, {[]int{0, 3, 0, 9}, []int{0, 1, 0, 1}},
		{[]int{4, 3, 3}, []int{1, 2, 2}}, {[]int{8, 1, 1}, []int{1, 2, 2}}, {[]int{1, 2, 1}, []int{2, 1, 2}},
		{[]int{1, 1, 1, 1}, []int{2, 2, 2, 2}}, {[]int{8, 4, 2, 1}, []int{1, 2, 3, 3}}, {[]int{1, 2, 4, 8}, []int{3, 3, 2, 1}},
		{[]int{5, 9, 12, 13, 16, 45}, []int{4, 4, 3, 3, 3, 1}},
		{[]int{1024, 512, 256, 128, 64, 32, 16, 8, 4, 2, 1, 1}, []int{1, 2, 3, 4, 5, 6, 7, 8, 9, 10, 11, 11}},
	} {
		count := spread(c.count...)
		if got := mustLengths(t, count); got != spread(c.want...) {
			t.Errorf("Lengths(%v) = %v, want %v", count, got, spread(c.want...))
		}
	}
}

func TestP7_2LengthsOfOneByteValue(t *testing.T) {
	for i := range 256 {
		for _, n := range []int{1, 2, 255, 1<<20 - 1, 1 << 20} {
			if l := mustLengths(t, with(all(0), i, n)); l != with(all(0), i, 1) {
				t.Errorf("only byte value %d, %d times: %v", i, n, l)
			}
		}
	}
}

func TestP7_2LengthsOfTwoByteValues(t *testing.T) {
	for i := range 256 {
		for j := range i {
			for _, n := range []int{1, 1 << 20} {
				if l := mustLengths(t, with(with(all(0), i, n), j, 1)); l != with(with(all(0), i, 1), j, 1) {
					t.Errorf("only byte values %d and %d, the first one %d times: %v", i, j, n, l)
				}
			}
		}
	}
}

func TestP7_2LengthsWrong(t *testing.T) {
	for i := range 256 {
		for _, x := range wrong() {
			for _, count := range [][256]int{with(all(0), i, x), with(all(1), i, x), with(all(1<<20), i, x), with(with(all(0), 0, 3), i, x), all(x)} {
				if l, ok := Lengths(count); ok || l != all(0) {
					t.Errorf("Lengths(%v) = %v, %v", count, l, ok)
				}
			}
			// Two that would cancel out.
			if l, ok := Lengths(with(with(all(0), i, x), 255-i, -x)); ok || l != all(0) {
				t.Errorf("%d and its negative: %v, %v", x, l, ok)
			}
		}
		mustLengths(t, with(all(0), i, 1<<20))
		mustLengths(t, with(all(1<<20), i, 0))
		mustLengths(t, with(all(1), i, 1<<20))
	}
}

func TestP7_2LengthsOfEqualCounts(t *testing.T) {
	for _, n := range []int{1, 2, 3, 1000, 1 << 20} {
		if l := mustLengths(t, all(n)); l != all(8) {
			t.Errorf("256 byte values, each %d times: %v", n, l)
		}
		for used := range 257 {
			var count [256]int
			for i := range used {
				count[i*91%256] = n
			}
			l := mustLengths(t, count)
			// Equal counts give a tree that is as flat as can be.
			for i := range l {
				if used > 1 && count[i] > 0 && l[i] != bits.Len(uint(used))-1 && l[i] != bits.Len(uint(used-1)) {
					t.Errorf("%d byte values, and %d has length %d", used, i, l[i])
				}
			}
		}
	}
}

// All that there is of up to six counts from 0 to 3.
func TestP7_2LengthsOfFewCounts(t *testing.T) {
	for x := range 1 << 12 {
		var count [256]int
		for i := range 6 {
			count[i*51] = x >> (2 * i) & 3
		}
		mustLengths(t, count)
	}
}

// powers is n counts of which each is about x times the one before it, within
// the limit.
func powers(n int, x float64) []int {
	l := make([]int, n)
	for i := range l {
		l[i] = int(min(math.Pow(x, float64(i)), 1<<20))
	}
	return l
}

// fibonacci is n counts, none above the limit.
func fibonacci(n int) []int {
	l := make([]int, n)
	a, b := 1, 1
	for i := range l {
		l[i] = min(a, 1<<20)
		a, b = b, min(a+b, 1<<20)
	}
	return l
}

// The trees of these counts are the deepest ones.
func TestP7_2LengthsOfDeepTrees(t *testing.T) {
	tooDeep := 0
	for n := range 257 {
		series := [][]int{fibonacci(n)}
		for _, x := range []float64{1, 1.01, 1.02, 1.05, 1.1, 1.2, 1.3, 1.4, 1.5, 1.6, 1.618, 1.7, 1.9, 2, 2.1, 2.5, 3, 5, 10, 100, 1000, 1 << 19, 1 << 20} {
			series = append(series, powers(n, x))
		}
		for _, l := range series {
			count := spread(l...)
			if plainDepth(count) > api.MaxLen {
				tooDeep++
			}
			mustLengths(t, count)
			slices.Reverse(l)
			mustLengths(t, spread(l...))
			mustLengths(t, [256]int(append(l, make([]int, 256-n)...)))
		}
	}
	if tooDeep < 3000 {
		t.Errorf("only %d trees were too deep", tooDeep)
	}
}

// One byte value of each power of two, 20 of them, and many that occur once.
func TestP7_2LengthsOfDeepAndWideTrees(t *testing.T) {
	for wide := range 236 {
		var count [256]int
		for i := range wide {
			count[i] = 1
		}
		for i := range 21 {
			count[255-i] = 1 << i
		}
		mustLengths(t, count)
	}
}

// randomCounts is counts of one of some kinds.
func randomCounts(r *rand.Rand) [256]int {
	var count [256]int
	used, kind := 1+r.Intn(256), r.Intn(5)
	x := 1 + r.Float64()*r.Float64()
	for n, i := range r.Perm(256)[:used] {
		switch kind {
		case 0:
			count[i] = r.Intn(1<<20 + 1)
		case 1:
			count[i] = r.Intn(4)
		case 2:
			count[i] = r.Intn(1 << r.Intn(21))
		case 3:
			count[i] = int(min(math.Pow(x, float64(n)), 1<<20))
		default:
			count[i] = 1<<r.Intn(21) - r.Intn(2)
		}
	}
	return count
}

func TestP7_2LengthsRandom(t *testing.T) {
	r := rand.New(rand.NewSource(3))
	for range 10000 {
		mustLengths(t, randomCounts(r))
	}
}

// least is a heap of numbers.
type least []int

func (l least) Len() int           { return len(l) }
func (l least) Less(i, j int) bool { return l[i] < l[j] }
func (l least) Swap(i, j int)      { l[i], l[j] = l[j], l[i] }
func (l *least) Push(x any)        { *l = append(*l, x.(int)) }
func (l *least) Pop() any {
	x := (*l)[len(*l)-1]
	*l = (*l)[:len(*l)-1]
	return x
}

// plainCost is the cost of a Huffman code without a limit: the weights of all
// inner nodes of its tree.
func plainCost(count [256]int) int {
	h := &least{}
	for _, n := range count {
		if n > 0 {
			heap.Push(h, n)
		}
	}
	sum := 0
	for h.Len() > 1 {
		x := heap.Pop(h).(int) + heap.Pop(h).(int)
		sum += x
		heap.Push(h, x)
	}
	return sum
}

// plainDepth is the least depth that a Huffman tree can have: among equal weights,
// flat ones are taken first.
func plainDepth(count [256]int) int {
	h := &least{}
	for _, n := range count {
		if n > 0 {
			heap.Push(h, n<<9)
		}
	}
	for h.Len() > 1 {
		x, y := heap.Pop(h).(int), heap.Pop(h).(int)
		deep := max(x&511, y&511) + 1
		heap.Push(h, (x>>9+y>>9)<<9|deep)
	}
	if h.Len() == 0 {
		return 0
	}
	return (*h)[0] & 511
}

// limitedCost is the least cost of a code with the limit, by the package-merge
// algorithm.
func limitedCost(count [256]int) int {
	var coins []int
	for _, n := range count {
		if n > 0 {
			coins = append(coins, n)
		}
	}
	slices.Sort(coins)
	var l []int
	for range api.MaxLen {
		var pairs []int
		for i := 1; i < len(l); i += 2 {
			pairs = append(pairs, l[i-1]+l[i])
		}
		l = append(pairs, coins...)
		slices.Sort(l)
	}
	sum := 0
	for _, x := range l[:max(2*len(coins)-2, 0)] {
		sum += x
	}
	return sum
}

// The code is a Huffman code, and so the shortest one, where the limit allows it.
func TestP7_2LengthsOfFlatTreesAreTheShortest(t *testing.T) {
	r := rand.New(rand.NewSource(4))
	flat := 0
	for range 5000 {
		count := randomCounts(r)
		if d := plainDepth(count); d == 0 || d > api.MaxLen {
			continue
		}
		flat++
		if got, want := Cost(count, mustLengths(t, count)), plainCost(count); got != want {
			t.Errorf("Lengths(%v): %d bits, and a Huffman code has %d", count, got, want)
		}
	}
	if flat < 1000 {
		t.Errorf("only %d trees were flat", flat)
	}
}

// The chapter does not ask for the shortest code with the limit, and this is not
// always found. For such counts as these it is near.
func TestP7_2LengthsOfDeepTreesAreShort(t *testing.T) {
	r := rand.New(rand.NewSource(5))
	deep := 0
	for range 5000 {
		count := randomCounts(r)
		if plainDepth(count) <= api.MaxLen {
			continue
		}
		deep++
		got, best := Cost(count, mustLengths(t, count)), limitedCost(count)
		if got < best || float64(got) > 1.1*float64(best) {
			t.Errorf("Lengths(%v): %d bits, and %d would do", count, got, best)
		}
	}
	if deep < 1000 {
		t.Errorf("only %d trees were deep", deep)
	}
}
