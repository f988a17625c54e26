package runs

import (
	"math"
	"math/rand"
	"slices"
	"testing"

	"concertina/api"
)

// plain is a map of blocks as the chapter tells it: true where a block is free.
type plain []bool

func plainNew(blocks int) plain {
	if blocks < 0 || blocks > api.MaxBlocks {
		blocks = 0
	}
	p := make(plain, blocks)
	p.set(0, blocks, true)
	return p
}

func (p plain) set(at, n int, free bool) {
	for i := range n {
		p[at+i] = free
	}
}

// all tells whether the n blocks from at on exist and are all free, or all not.
func (p plain) all(at, n int, free bool) bool {
	if at < 0 || n < 1 || at >= len(p) || n > len(p)-at {
		return false
	}
	return !slices.Contains(p[at:at+n], !free)
}

func (p plain) mark(at, n int) bool {
	ok := p.all(at, n, true)
	if ok {
		p.set(at, n, false)
	}
	return ok
}

func (p plain) give(at, n int) bool {
	ok := p.all(at, n, false)
	if ok {
		p.set(at, n, true)
	}
	return ok
}

func (p plain) take(n int) (int, bool) {
	for at := range p {
		if p.mark(at, n) {
			return at, true
		}
	}
	return 0, false
}

// list is the free runs, each as long as possible.
func (p plain) list() []api.Run {
	var l []api.Run
	for at, free := range p {
		switch {
		case !free:
		case at > 0 && p[at-1]:
			l[len(l)-1].N++
		default:
			l = append(l, api.Run{At: at, N: 1})
		}
	}
	return l
}

// mustBe wants that all that can be read from r is as in p.
func mustBe(t *testing.T, r *Runs, p plain) {
	t.Helper()
	free, greatest := 0, 0
	want := p.list()
	for _, x := range want {
		free += x.N
		greatest = max(greatest, x.N)
	}
	if got := r.List(); !slices.Equal(got, want) {
		t.Fatalf("List = %v, want %v", got, want)
	}
	if got := r.Free(); got != free {
		t.Fatalf("Free = %d, want %d: %v", got, free, want)
	}
	if got := r.Greatest(); got != greatest {
		t.Fatalf("Greatest = %d, want %d: %v", got, greatest, want)
	}
}

func mustTake(t *testing.T, r *Runs, p plain, n int) bool {
	t.Helper()
	before := r.List()
	at, ok := r.Take(n)
	if want, has := p.take(n); at != want || ok != has {
		t.Fatalf("Take(%d) = %d, %v, want %d, %v: %v", n, at, ok, want, has, before)
	}
	mustBe(t, r, p)
	return ok
}

func mustMark(t *testing.T, r *Runs, p plain, at, n int) bool {
	t.Helper()
	before := r.List()
	ok := r.Mark(at, n)
	if want := p.mark(at, n); ok != want {
		t.Fatalf("Mark(%d, %d) = %v, want %v: %v", at, n, ok, want, before)
	}
	mustBe(t, r, p)
	return ok
}

func mustGive(t *testing.T, r *Runs, p plain, at, n int) bool {
	t.Helper()
	before := r.List()
	ok := r.Give(at, n)
	if want := p.give(at, n); ok != want {
		t.Fatalf("Give(%d, %d) = %v, want %v: %v", at, n, ok, want, before)
	}
	mustBe(t, r, p)
	return ok
}

// parse reads a state of blocks, the first one to the left: '.' is free.
func parse(show string) plain {
	p := make(plain, len(show))
	for i := range p {
		p[i] = show[i] == '.'
	}
	return p
}

// made is a map in the state that show tells, and the plain one.
func made(t *testing.T, show string) (*Runs, plain) {
	t.Helper()
	r, p := New(len(show)), parse(show)
	for at, free := range p {
		if !free && !r.Mark(at, 1) {
			t.Fatalf("Mark(%d, 1) = false", at)
		}
	}
	mustBe(t, r, p)
	return r, p
}

// extremes is numbers that are far beyond all blocks.
var extremes = [...]int{math.MinInt, math.MinInt + 1, math.MaxInt - 1, math.MaxInt, 1 << 62, -1 << 62, 1 << 31, 1 << 32, -1 << 31, -1 << 32}

func TestP11_1Example(t *testing.T) {
	r := New(8)
	if at, ok := r.Take(3); at != 0 || !ok {
		t.Errorf("Take(3) = %d, %v", at, ok)
	}
	if at, ok := r.Take(2); at != 3 || !ok {
		t.Errorf("Take(2) = %d, %v", at, ok)
	}
	if !r.Give(0, 3) {
		t.Error("Give(0, 3) = false")
	}
	if l := r.List(); !slices.Equal(l, []api.Run{{At: 0, N: 3}, {At: 5, N: 3}}) {
		t.Errorf("List = %v", l)
	}
}

func TestP11_1NewAllFree(t *testing.T) {
	for _, n := range []int{0, 1, 2, 3, 7, 63, 64, 65, 1000, 8191, 8192} {
		r, p := New(n), plainNew(n)
		if len(p) != n {
			t.Fatal(n)
		}
		mustBe(t, r, p)
		if n == 0 {
			continue
		}
		// It has all of them, and not one more.
		mustMark(t, r, p, n, 1)
		mustMark(t, r, p, n-1, 2)
		mustMark(t, r, p, 0, n+1)
		mustTake(t, r, p, n+1)
		mustGive(t, r, p, n, 1)
		if !mustMark(t, r, p, n-1, 1) || !mustGive(t, r, p, n-1, 1) || !mustTake(t, r, p, n) {
			t.Errorf("New(%d) has too few blocks", n)
		}
		mustGive(t, r, p, n, 1)
		mustGive(t, r, p, n-1, 2)
		mustGive(t, r, p, 0, n+1)
	}
}

// mustHaveNone wants that there are no blocks in r.
func mustHaveNone(t *testing.T, r *Runs) {
	t.Helper()
	var p plain
	for at := -2; at <= 2; at++ {
		for n := -2; n <= 2; n++ {
			mustTake(t, r, p, n)
			mustMark(t, r, p, at, n)
			mustGive(t, r, p, at, n)
		}
	}
	for _, x := range slices.Concat(extremes[:], []int{64, 8191, 8192, 8193}) {
		mustTake(t, r, p, x)
		mustMark(t, r, p, x, 1)
		mustMark(t, r, p, 0, x)
		mustGive(t, r, p, x, 1)
		mustGive(t, r, p, 0, x)
		mustGive(t, r, p, x, x)
	}
}

func TestP11_1NewWithoutBlocks(t *testing.T) {
	for _, n := range slices.Concat(extremes[:], []int{0, -1, -2, -64, 8193, 8194, 16384, 65536}) {
		r := New(n)
		if r == nil {
			t.Fatalf("New(%d) = nil", n)
		}
		mustHaveNone(t, r)
		mustHaveNone(t, r.Copy())
	}
	mustHaveNone(t, &Runs{})
}

func TestP11_1TakeFirst(t *testing.T) {
	const show = "#.##...#..#.....#..."
	for n, want := range map[int]int{1: 1, 2: 4, 3: 4, 4: 11, 5: 11} {
		r, p := made(t, show)
		if at, ok := r.Take(n); at != want || !ok {
			t.Errorf("Take(%d) = %d, %v, want %d, true", n, at, ok, want)
		}
		p.take(n)
		mustBe(t, r, p)
	}
	// 6 blocks are free, but not in one run.
	for _, n := range []int{6, 7, 13, 14, 20, 21} {
		r, p := made(t, show)
		if mustTake(t, r, p, n) {
			t.Errorf("Take(%d) found a run", n)
		}
	}
	// The first run, though a later one would fit exactly.
	r, _ := made(t, "...#.")
	if at, ok := r.Take(1); at != 0 || !ok {
		t.Errorf("Take(1) = %d, %v", at, ok)
	}
}

func TestP11_1TakeAll(t *testing.T) {
	r, p := New(100), plainNew(100)
	for n := 1; mustTake(t, r, p, n); n = n%7 + 1 {
	}
	for mustTake(t, r, p, 1) {
	}
	if r.Free() != 0 || r.Greatest() != 0 || len(r.List()) != 0 {
		t.Errorf("there is something left: %v", r.List())
	}
}

func TestP11_1TakeNothing(t *testing.T) {
	for _, show := range []string{"........", "#.##..#.", "########", ""} {
		r, p := made(t, show)
		for _, n := range slices.Concat(extremes[:], []int{0, -1, -2, -8, 9, 10, 8192, 8193}) {
			if mustTake(t, r, p, n) {
				t.Errorf("%s: Take(%d) found a run", show, n)
			}
		}
	}
}

func TestP11_1MarkAndGiveKnown(t *testing.T) {
	r, p := made(t, "..........")
	for _, x := range []struct {
		mark  bool
		at, n int
		want  bool
		show  string
	}{
		{true, 3, 2, true, "...##....."},
		{true, 4, 1, false, "...##....."},
		{true, 2, 2, false, "...##....."},
		{true, 4, 3, false, "...##....."},
		{true, 0, 10, false, "...##....."},
		{true, 0, 3, true, "#####....."},
		{true, 9, 1, true, "#####....#"},
		{true, 6, 2, true, "#####.##.#"},
		{true, 5, 4, false, "#####.##.#"},
		{false, 5, 1, false, "#####.##.#"},
		{false, 4, 2, false, "#####.##.#"},
		{false, 5, 2, false, "#####.##.#"},
		{false, 4, 3, false, "#####.##.#"},
		{false, 0, 10, false, "#####.##.#"},
		{false, 9, 2, false, "#####.##.#"},
		{false, 1, 3, true, "#...#.##.#"},
		{false, 6, 1, true, "#...#..#.#"},
		{false, 7, 1, true, "#...#....#"},
		{false, 0, 1, true, "....#....#"},
		{false, 4, 1, true, ".........#"},
		{false, 9, 1, true, ".........."},
		{false, 9, 1, false, ".........."},
		{true, 0, 10, true, "##########"},
		{false, 0, 10, true, ".........."},
	} {
		var ok bool
		if x.mark {
			ok = mustMark(t, r, p, x.at, x.n)
		} else {
			ok = mustGive(t, r, p, x.at, x.n)
		}
		if ok != x.want {
			t.Errorf("mark %v, %d, %d: %v", x.mark, x.at, x.n, ok)
		}
		mustBe(t, r, parse(x.show))
	}
}

func TestP11_1MarkAndGiveNothing(t *testing.T) {
	for _, show := range []string{"........", "#.##..#.", "########", ".######.", ""} {
		r, p := made(t, show)
		for _, x := range append(extremes[:], -9, -8, -2, -1, 0) {
			for at := -2; at <= 10; at++ {
				if mustMark(t, r, p, at, x) || mustGive(t, r, p, at, x) {
					t.Errorf("%s: there are %d blocks from %d on", show, x, at)
				}
			}
		}
		for _, at := range append(extremes[:], -2, -1, 8, 9, 63, 64, 8191, 8192, 8193) {
			for _, n := range append(extremes[:], -1, 0, 1, 2, 8, 9, 10, -at, 8-at, 9-at) {
				if at < 0 || at >= len(show) {
					if mustMark(t, r, p, at, n) || mustGive(t, r, p, at, n) {
						t.Errorf("%s: there are %d blocks from %d on", show, n, at)
					}
				}
			}
		}
	}
}

func TestP11_1GiveMerges(t *testing.T) {
	for _, x := range []struct {
		from  string
		at, n int
		want  []api.Run
	}{
		{"##########", 4, 2, []api.Run{{At: 4, N: 2}}},
		{".###.#####", 2, 1, []api.Run{{At: 0, N: 1}, {At: 2, N: 1}, {At: 4, N: 1}}},
		{".###.#####", 1, 1, []api.Run{{At: 0, N: 2}, {At: 4, N: 1}}},
		{".###.#####", 3, 1, []api.Run{{At: 0, N: 1}, {At: 3, N: 2}}},
		{".###.#####", 1, 3, []api.Run{{At: 0, N: 5}}},
		{".###.#####", 5, 5, []api.Run{{At: 0, N: 1}, {At: 4, N: 6}}},
		{".###.#####", 6, 4, []api.Run{{At: 0, N: 1}, {At: 4, N: 1}, {At: 6, N: 4}}},
		{"##.##.##.#", 0, 2, []api.Run{{At: 0, N: 3}, {At: 5, N: 1}, {At: 8, N: 1}}},
		{"##.##.##.#", 0, 1, []api.Run{{At: 0, N: 1}, {At: 2, N: 1}, {At: 5, N: 1}, {At: 8, N: 1}}},
		{"##.##.##.#", 3, 2, []api.Run{{At: 2, N: 4}, {At: 8, N: 1}}},
		{"##.##.##.#", 9, 1, []api.Run{{At: 2, N: 1}, {At: 5, N: 1}, {At: 8, N: 2}}},
	} {
		r, p := made(t, x.from)
		if !mustGive(t, r, p, x.at, x.n) {
			t.Errorf("%s: Give(%d, %d) = false", x.from, x.at, x.n)
		}
		if l := r.List(); !slices.Equal(l, x.want) {
			t.Errorf("%s: List = %v, want %v", x.from, l, x.want)
		}
		// What has been merged can be had at once.
		for _, run := range x.want {
			c, q := r.Copy(), slices.Clone(p)
			if !mustMark(t, c, q, run.At, run.N) {
				t.Errorf("%s: Mark(%d, %d) = false", x.from, run.At, run.N)
			}
		}
		mustTake(t, r, p, r.Greatest())
	}
}

// states calls f with maps of n blocks in every state, made in several ways.
func states(t *testing.T, n int, f func(r *Runs, p plain)) {
	rnd := rand.New(rand.NewSource(1))
	for x := range 1 << n {
		show := make([]byte, n)
		for i := range show {
			show[i] = "#."[x>>i&1]
		}
		r, p := made(t, string(show))
		f(r, p)
		r = New(n)
		r.Mark(0, n)
		for _, at := range rnd.Perm(n) {
			if p[at] && !r.Give(at, 1) {
				t.Fatalf("Give(%d, 1) = false", at)
			}
		}
		mustBe(t, r, p)
		f(r, p)
	}
}

func TestP11_1EveryCallInEveryState(t *testing.T) {
	for n := 1; n <= 7; n++ {
		states(t, n, func(r *Runs, p plain) {
			for size := -1; size <= n+1; size++ {
				mustTake(t, r.Copy(), slices.Clone(p), size)
				for at := -2; at <= n+1; at++ {
					mustMark(t, r.Copy(), slices.Clone(p), at, size)
					mustGive(t, r.Copy(), slices.Clone(p), at, size)
				}
			}
			// None of these calls is to be seen outside the copies.
			mustBe(t, r, p)
		})
	}
}

// step makes a call with both maps, which is to have a result often enough.
func step(t *testing.T, rnd *rand.Rand, r *Runs, p plain, most int) bool {
	t.Helper()
	n := rnd.Intn(most+2) - 1
	at := rnd.Intn(len(p)+2) - 1
	if l := r.List(); len(l) > 0 && rnd.Intn(2) == 0 {
		// At the edge of a free run.
		x := l[rnd.Intn(len(l))]
		at = x.At + rnd.Intn(2)*x.N + rnd.Intn(3) - 1 - rnd.Intn(2)*n
		if rnd.Intn(3) == 0 {
			at, n = x.At, x.N
		}
	}
	switch rnd.Intn(3) {
	case 0:
		return mustTake(t, r, p, n)
	case 1:
		return mustMark(t, r, p, at, n)
	default:
		return mustGive(t, r, p, at, n)
	}
}

func TestP11_1AgainstPlain(t *testing.T) {
	for _, x := range []struct{ blocks, most, steps int }{
		{10, 3, 20000}, {64, 8, 20000}, {300, 20, 10000}, {api.MaxBlocks, 600, 2000},
	} {
		rnd := rand.New(rand.NewSource(int64(x.blocks)))
		r, p := New(x.blocks), plainNew(x.blocks)
		done := 0
		for range x.steps {
			if step(t, rnd, r, p, x.most) {
				done++
			}
			if rnd.Intn(50) == 0 {
				r = r.Copy()
			}
		}
		if done < x.steps/10 || done > x.steps*9/10 {
			t.Errorf("%d blocks: %d of %d calls had a result", x.blocks, done, x.steps)
		}
	}
}

func TestP11_1ManyRuns(t *testing.T) {
	r, p := New(api.MaxBlocks), plainNew(api.MaxBlocks)
	for at := 0; at < api.MaxBlocks; at += 2 {
		r.Mark(at, 1)
		p.mark(at, 1)
	}
	mustBe(t, r, p)
	if n := len(r.List()); n != api.MaxBlocks/2 || r.Greatest() != 1 || r.Free() != n {
		t.Errorf("%d runs, %d blocks, %d in a row", n, r.Free(), r.Greatest())
	}
	mustTake(t, r, p, 2)
	for at := 0; at < api.MaxBlocks; at += 2 {
		r.Give(at, 1)
		p.give(at, 1)
	}
	mustBe(t, r, p)
	mustTake(t, r, p, api.MaxBlocks)
}

func TestP11_1ListIsNewMemory(t *testing.T) {
	for _, show := range []string{"..........", ".#.#..#.#.", "####..####", "##########"} {
		r, p := made(t, show)
		r.Take(1)
		p.take(1)
		one, two := r.List(), r.List()
		kept := slices.Clone(two)
		one = one[:cap(one)]
		for i := range one {
			one[i] = api.Run{At: 7, N: 7}
		}
		mustBe(t, r, p)
		if !slices.Equal(two, kept) {
			t.Errorf("%s: two lists share memory", show)
		}
		for at := range show {
			mustMark(t, r, p, at, 1)
			mustGive(t, r, p, at, 1)
		}
		if !slices.Equal(two, kept) {
			t.Errorf("%s: a list changes later", show)
		}
	}
}

func TestP11_1CopyIsIndependent(t *testing.T) {
	rnd := rand.New(rand.NewSource(3))
	for range 300 {
		n := 1 + rnd.Intn(40)
		r, p := New(n), plainNew(n)
		for range rnd.Intn(30) {
			step(t, rnd, r, p, 5)
		}
		c, q := r.Copy(), slices.Clone(p)
		mustBe(t, c, q)
		d, o := c.Copy(), slices.Clone(q)
		for range 30 {
			step(t, rnd, r, p, 5)
			mustBe(t, c, q)
			step(t, rnd, c, q, 5)
			mustBe(t, r, p)
		}
		mustBe(t, d, o)
		// It has the same blocks, too.
		mustMark(t, d, o, n-1, 1)
		if mustGive(t, d, o, n-1, 2) || mustGive(t, d, o, n, 1) {
			t.Errorf("a copy of %d blocks has more of them", n)
		}
	}
}

func TestP11_1CopyOfAll(t *testing.T) {
	for _, n := range []int{1, 2, 64, 8192} {
		r, p := New(n), plainNew(n)
		c, q := r.Copy(), plainNew(n)
		mustTake(t, r, p, n)
		mustBe(t, c, q)
		c = r.Copy()
		mustGive(t, c, slices.Clone(p), 0, n)
		mustBe(t, r, p)
		mustGive(t, r.Copy(), slices.Clone(p), n-1, 1)
		mustBe(t, r, p)
	}
}

func TestP11_1IsTheSameEachTime(t *testing.T) {
	play := func() []api.Run {
		rnd := rand.New(rand.NewSource(4))
		r, p := New(50), plainNew(50)
		for range 200 {
			step(t, rnd, r, p, 6)
		}
		return r.List()
	}
	if one, two := play(), play(); !slices.Equal(one, two) {
		t.Errorf("%v, then %v", one, two)
	}
}

func TestP11_1Nil(t *testing.T) {
	var r *Runs
	mustHaveNone(t, r)
	if c := r.Copy(); c != nil {
		t.Errorf("Copy = %v", c)
	}
	if l := r.List(); l != nil {
		t.Errorf("List = %v", l)
	}
}
