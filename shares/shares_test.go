package shares

import (
	"maps"
	"math"
	"math/rand"
	"slices"
	"testing"

	"concertina/api"
	"concertina/runs"
)

// count is how long a run is, and how often it is used.
type count struct{ n, uses int }

// plain is what the chapter tells, kept as it is told: the free blocks, the runs
// now and directly after the last Settle, and the runs that were added since.
type plain struct {
	free      []bool
	now, then map[int]count
	added     []api.Run
}

// made is a Shares on blocks that are all free, and the plain one.
func made(blocks int) (*Shares, *runs.Runs, *plain) {
	r := runs.New(blocks)
	p := &plain{free: make([]bool, blocks), now: map[int]count{}, then: map[int]count{}}
	for i := range p.free {
		p.free[i] = true
	}
	return New(r), r, p
}

// set changes blocks if all of them exist and are as they are not to be.
func (p *plain) set(at, n int, free bool) bool {
	if at < 0 || n < 1 || at > len(p.free) || n > len(p.free)-at || slices.Contains(p.free[at:at+n], free) {
		return false
	}
	for i := range n {
		p.free[at+i] = free
	}
	return true
}

func (p *plain) take(n int) (int, bool) {
	for at := range p.free {
		if p.set(at, n, false) {
			return at, true
		}
	}
	return 0, false
}

func (p *plain) add(x api.Run) bool {
	if _, known := p.now[x.At]; known || x.N < 1 || x.At < 0 {
		return false
	}
	p.now[x.At] = count{n: x.N, uses: 1}
	p.added = append(p.added, x)
	return true
}

func (p *plain) change(at, by int) bool {
	c := p.now[at]
	if c.uses == 0 {
		return false
	}
	p.now[at] = count{n: c.n, uses: c.uses + by}
	return true
}

func (p *plain) list(late bool) []api.Run {
	var l []api.Run
	for _, at := range slices.Sorted(maps.Keys(p.now)) {
		if c := p.now[at]; late == (c.uses == 0) {
			l = append(l, api.Run{At: at, N: c.n})
		}
	}
	return l
}

func (p *plain) settle() int {
	n := 0
	for _, x := range p.list(true) {
		p.set(x.At, x.N, true)
		delete(p.now, x.At)
		n += x.N
	}
	p.then, p.added = maps.Clone(p.now), nil
	return n
}

func (p *plain) back() {
	for _, x := range p.added {
		p.set(x.At, x.N, true)
	}
	p.now, p.added = maps.Clone(p.then), nil
}

// both is a Shares, the blocks it was made with, and the plain one. Each of its
// methods makes one call with both, and wants the same result and state.
type both struct {
	t *testing.T
	s *Shares
	r *runs.Runs
	p *plain
}

func pair(t *testing.T, blocks int) both {
	s, r, p := made(blocks)
	return both{t: t, s: s, r: r, p: p}
}

// extremes is numbers that are far beyond all blocks.
var extremes = [...]int{math.MinInt, math.MinInt + 1, math.MaxInt - 1, math.MaxInt, 1 << 62, -1 << 62, 1 << 31, 1 << 32, -1 << 31, -1 << 32}

// mustBe wants that all that can be read from s and r is as in p.
func (b both) mustBe() {
	b.t.Helper()
	if got, want := b.s.List(), b.p.list(false); !slices.Equal(got, want) {
		b.t.Fatalf("List = %v, want %v", got, want)
	}
	if got, want := b.s.Late(), b.p.list(true); !slices.Equal(got, want) {
		b.t.Fatalf("Late = %v, want %v", got, want)
	}
	for at := -2; at <= len(b.p.free)+2; at++ {
		b.mustUse(at)
	}
	for at := range b.p.now {
		b.mustUse(at)
	}
	for _, at := range extremes {
		b.mustUse(at)
	}
	b.mustBeFree()
}

func (b both) mustUse(at int) {
	b.t.Helper()
	if got, want := b.s.Uses(at), b.p.now[at].uses; got != want {
		b.t.Fatalf("Uses(%d) = %d, want %d", at, got, want)
	}
}

// mustBeFree wants that the same blocks are free in r and in p.
func (b both) mustBeFree() {
	b.t.Helper()
	free := make([]bool, len(b.p.free))
	for _, x := range b.r.List() {
		for i := range x.N {
			free[x.At+i] = true
		}
	}
	if !slices.Equal(free, b.p.free) {
		b.t.Fatalf("free blocks = %v, want %v", free, b.p.free)
	}
}

// take allocates blocks in r without telling s.
func (b both) take(n int) (int, bool) {
	b.t.Helper()
	at, ok := b.r.Take(n)
	if want, has := b.p.take(n); at != want || ok != has {
		b.t.Fatalf("Take(%d) = %d, %v, want %d, %v", n, at, ok, want, has)
	}
	return at, ok
}

func (b both) add(at, n int) bool {
	b.t.Helper()
	x := api.Run{At: at, N: n}
	ok := b.s.Add(x)
	if want := b.p.add(x); ok != want {
		b.t.Fatalf("Add(%v) = %v, want %v", x, ok, want)
	}
	b.mustBe()
	return ok
}

// put allocates blocks in r and registers them.
func (b both) put(n int) int {
	b.t.Helper()
	at, ok := b.take(n)
	if ok {
		b.add(at, n)
	}
	return at
}

func (b both) more(at int) bool {
	b.t.Helper()
	ok := b.s.More(at)
	if want := b.p.change(at, 1); ok != want {
		b.t.Fatalf("More(%d) = %v, want %v", at, ok, want)
	}
	b.mustBe()
	return ok
}

func (b both) less(at int) bool {
	b.t.Helper()
	ok := b.s.Less(at)
	if want := b.p.change(at, -1); ok != want {
		b.t.Fatalf("Less(%d) = %v, want %v", at, ok, want)
	}
	b.mustBe()
	return ok
}

func (b both) settle() int {
	b.t.Helper()
	n := b.s.Settle()
	if want := b.p.settle(); n != want {
		b.t.Fatalf("Settle = %d, want %d", n, want)
	}
	b.mustBe()
	return n
}

func (b both) back() {
	b.t.Helper()
	b.s.Back()
	b.p.back()
	b.mustBe()
}

// mustList wants these runs in use and these late ones.
func (b both) mustList(used, late []api.Run) {
	b.t.Helper()
	if l := b.s.List(); !slices.Equal(l, used) {
		b.t.Fatalf("List = %v, want %v", l, used)
	}
	if l := b.s.Late(); !slices.Equal(l, late) {
		b.t.Fatalf("Late = %v, want %v", l, late)
	}
}

// must wants a result.
func must[T comparable](t *testing.T, what string, got, want T) {
	t.Helper()
	if got != want {
		t.Fatalf("%s: %v, want %v", what, got, want)
	}
}

func TestP12_1Example(t *testing.T) {
	r := runs.New(8)
	r.Take(2)
	s := New(r)
	must(t, "Add", s.Add(api.Run{At: 0, N: 2}), true)
	must(t, "Less", s.Less(0), true)
	must(t, "Uses", s.Uses(0), 0)
	if l := s.Late(); !slices.Equal(l, []api.Run{{At: 0, N: 2}}) {
		t.Errorf("Late = %v", l)
	}
}

func TestP12_1NewKnowsNothing(t *testing.T) {
	b := pair(t, 10)
	b.mustBe()
	b.mustList(nil, nil)
	must(t, "Free", b.r.Free(), 10)
	must(t, "More", b.more(0), false)
	must(t, "Less", b.less(0), false)
	must(t, "Settle", b.settle(), 0)
	b.back()
	must(t, "Free", b.r.Free(), 10)
	// What is allocated already is nothing to it either.
	r := runs.New(10)
	r.Take(4)
	s := New(r)
	must(t, "Settle", s.Settle(), 0)
	s.Back()
	must(t, "Free", r.Free(), 6)
}

func TestP12_1AddOneUse(t *testing.T) {
	b := pair(t, 20)
	must(t, "put", b.put(3), 0)
	must(t, "put", b.put(1), 3)
	must(t, "put", b.put(16), 4)
	b.mustList([]api.Run{{At: 0, N: 3}, {At: 3, N: 1}, {At: 4, N: 16}}, nil)
	for at, want := range map[int]int{0: 1, 1: 0, 2: 0, 3: 1, 4: 1, 5: 0, 19: 0, 20: 0} {
		must(t, "Uses", b.s.Uses(at), want)
	}
	must(t, "Free", b.r.Free(), 0)
}

func TestP12_1AddKnown(t *testing.T) {
	b := pair(t, 20)
	b.put(3)
	b.more(0)
	for _, n := range []int{1, 2, 3, 4, 20} {
		must(t, "Add used", b.add(0, n), false)
	}
	b.less(0)
	b.less(0)
	for _, n := range []int{1, 2, 3, 4, 20} {
		must(t, "Add late", b.add(0, n), false)
	}
	b.mustList(nil, []api.Run{{At: 0, N: 3}})
	// It is no longer known when it is settled.
	must(t, "Settle", b.settle(), 3)
	must(t, "take", b.put(2), 0)
	b.mustList([]api.Run{{At: 0, N: 2}}, nil)
	must(t, "Uses", b.s.Uses(0), 1)
	// Nor when its Add is undone.
	b.back()
	must(t, "take", b.put(5), 0)
	b.mustList([]api.Run{{At: 0, N: 5}}, nil)
	// But it is when its Less is undone.
	b.settle()
	b.less(0)
	b.back()
	must(t, "Add used again", b.add(0, 5), false)
}

func TestP12_1AddNoRun(t *testing.T) {
	b := pair(t, 20)
	b.put(3)
	for _, n := range slices.Concat(extremes[:], []int{0, -1, -2, -64}) {
		if n < 1 {
			must(t, "Add", b.add(5, n), false)
			must(t, "Add", b.add(0, n), false)
			must(t, "Add", b.add(-1, n), false)
		}
	}
	for _, at := range slices.Concat(extremes[:], []int{-1, -2, -64}) {
		if at < 0 {
			must(t, "Add", b.add(at, 1), false)
			must(t, "Add", b.add(at, 3), false)
			must(t, "Add", b.add(at, math.MaxInt), false)
			must(t, "Add", b.add(at, 1-at), false)
		}
	}
	b.mustList([]api.Run{{At: 0, N: 3}}, nil)
}

// What the chapter does not reject is accepted, though the caller had to have
// allocated it.
func TestP12_1AddAnythingElse(t *testing.T) {
	b := pair(t, 20)
	for _, x := range []api.Run{{At: 0, N: 1}, {At: 1, N: 1}, {At: 2, N: 8}, {At: 3, N: 2}, {At: 19, N: 5}, {At: 20, N: 1}, {At: api.MaxBlocks - 1, N: 1}, {At: api.MaxBlocks, N: api.MaxBlocks}, {At: 1 << 40, N: 1}, {At: math.MaxInt, N: 1}} {
		must(t, "Add", b.add(x.At, x.N), true)
		must(t, "Add again", b.add(x.At, x.N), false)
		must(t, "More", b.more(x.At), true)
		must(t, "Less", b.less(x.At), true)
		must(t, "Less", b.less(x.At), true)
		must(t, "Less", b.less(x.At), false)
	}
	must(t, "late", len(b.s.Late()), 10)
	must(t, "Settle", b.settle(), 1+1+8+2+5+1+1+api.MaxBlocks+1+1)
	// r has not let itself be given what is free in it.
	must(t, "Free", b.r.Free(), 20)
	b.add(1<<40, 7)
	b.add(0, 7)
	b.back()
	must(t, "Free", b.r.Free(), 20)
}

func TestP12_1MoreAndLess(t *testing.T) {
	b := pair(t, 20)
	b.put(3)
	b.put(2)
	for i := range 200 {
		must(t, "More", b.more(3), true)
		must(t, "Uses", b.s.Uses(3), i+2)
		must(t, "Uses of the other", b.s.Uses(0), 1)
	}
	for i := range 201 {
		must(t, "Uses", b.s.Uses(3), 201-i)
		b.mustList([]api.Run{{At: 0, N: 3}, {At: 3, N: 2}}, nil)
		must(t, "Less", b.less(3), true)
	}
	b.mustList([]api.Run{{At: 0, N: 3}}, []api.Run{{At: 3, N: 2}})
	must(t, "Uses", b.s.Uses(3), 0)
	must(t, "Uses of the other", b.s.Uses(0), 1)
}

func TestP12_1MoreAndLessNotInUse(t *testing.T) {
	b := pair(t, 20)
	b.put(3)
	b.put(2)
	b.less(3)
	// 1, 2 and 4 are inside of runs, 3 is late, the others are not known.
	for _, at := range slices.Concat(extremes[:], []int{-3, -2, -1, 1, 2, 3, 4, 5, 19, 20, 21, 8191, 8192}) {
		must(t, "More", b.more(at), false)
		must(t, "Less", b.less(at), false)
		must(t, "Uses", b.s.Uses(at), 0)
	}
	b.mustList([]api.Run{{At: 0, N: 3}}, []api.Run{{At: 3, N: 2}})
	b.settle()
	must(t, "More of a settled one", b.more(3), false)
	must(t, "Less of a settled one", b.less(3), false)
}

func TestP12_1LateIsNotFree(t *testing.T) {
	b := pair(t, 5)
	b.put(3)
	b.put(2)
	must(t, "Less", b.less(0), true)
	must(t, "Free", b.r.Free(), 0)
	if _, ok := b.take(1); ok {
		t.Error("there are late blocks that can be had")
	}
	must(t, "Less", b.less(3), true)
	must(t, "Free", b.r.Free(), 0)
	b.mustList(nil, []api.Run{{At: 0, N: 3}, {At: 3, N: 2}})
	must(t, "Settle", b.settle(), 5)
	must(t, "Free", b.r.Free(), 5)
	must(t, "Greatest", b.r.Greatest(), 5)
}

func TestP12_1ListsAscend(t *testing.T) {
	rnd := rand.New(rand.NewSource(1))
	for range 50 {
		b := pair(t, 40)
		b.take(40)
		for _, i := range rnd.Perm(20) {
			must(t, "Add", b.add(2*i, 1+rnd.Intn(2)), true)
		}
		for _, i := range rnd.Perm(20)[:rnd.Intn(21)] {
			must(t, "Less", b.less(2*i), true)
		}
		for _, l := range [][]api.Run{b.s.List(), b.s.Late()} {
			if !slices.IsSortedFunc(l, func(x, y api.Run) int { return x.At - y.At }) {
				t.Fatalf("%v does not ascend", l)
			}
		}
		must(t, "runs", len(b.s.List())+len(b.s.Late()), 20)
		b.settle()
	}
}

func TestP12_1ListsAreNewMemory(t *testing.T) {
	b := pair(t, 20)
	for range 6 {
		b.put(2)
	}
	for _, at := range []int{0, 4, 10} {
		b.less(at)
	}
	for _, list := range []func() []api.Run{b.s.List, b.s.Late} {
		one, two := list(), list()
		kept := slices.Clone(two)
		one = one[:cap(one)]
		for i := range one {
			one[i] = api.Run{At: 7, N: 7}
		}
		b.mustBe()
		if !slices.Equal(two, kept) {
			t.Error("two lists share memory")
		}
		b.put(1)
		b.back()
		b.put(1)
		b.less(0)
		b.settle()
		if !slices.Equal(two, kept) {
			t.Error("a list changes later")
		}
		for range 6 {
			b.less(b.put(1))
			b.put(1)
		}
	}
}

func TestP12_1SettleFreesAllLate(t *testing.T) {
	b := pair(t, 20)
	for n := 1; n <= 5; n++ {
		b.put(n)
	}
	b.more(10)
	for _, at := range []int{1, 10, 6} {
		must(t, "Less", b.less(at), true)
	}
	b.mustList([]api.Run{{At: 0, N: 1}, {At: 3, N: 3}, {At: 10, N: 5}}, []api.Run{{At: 1, N: 2}, {At: 6, N: 4}})
	must(t, "Settle", b.settle(), 6)
	b.mustList([]api.Run{{At: 0, N: 1}, {At: 3, N: 3}, {At: 10, N: 5}}, nil)
	if l := b.r.List(); !slices.Equal(l, []api.Run{{At: 1, N: 2}, {At: 6, N: 4}, {At: 15, N: 5}}) {
		t.Errorf("free: %v", l)
	}
	// They are forgotten.
	must(t, "Settle", b.settle(), 0)
	must(t, "More", b.more(1), false)
	must(t, "Less", b.less(6), false)
	must(t, "take", b.put(4), 6)
	must(t, "Settle", b.settle(), 0)
	must(t, "Uses", b.s.Uses(6), 1)
}

func TestP12_1SettleWithoutLate(t *testing.T) {
	b := pair(t, 20)
	must(t, "Settle", b.settle(), 0)
	b.put(4)
	b.put(4)
	b.more(4)
	must(t, "Settle", b.settle(), 0)
	b.mustList([]api.Run{{At: 0, N: 4}, {At: 4, N: 4}}, nil)
	must(t, "Uses", b.s.Uses(4), 2)
	must(t, "Free", b.r.Free(), 12)
}

// It gives back to the very map it was made with, whatever has happened to that.
func TestP12_1GivesBackToR(t *testing.T) {
	b := pair(t, 20)
	b.take(5)
	must(t, "put", b.put(5), 5)
	b.take(5)
	must(t, "Give", b.r.Give(0, 5) && b.p.set(0, 5, true), true)
	b.less(5)
	must(t, "Settle", b.settle(), 5)
	if l := b.r.List(); !slices.Equal(l, []api.Run{{At: 0, N: 10}, {At: 15, N: 5}}) {
		t.Errorf("free: %v", l)
	}
	must(t, "put", b.put(6), 0)
	b.take(4)
	b.back()
	if l := b.r.List(); !slices.Equal(l, []api.Run{{At: 0, N: 6}, {At: 15, N: 5}}) {
		t.Errorf("free: %v", l)
	}
}

func TestP12_1BackToNew(t *testing.T) {
	b := pair(t, 20)
	b.put(3)
	b.put(2)
	b.put(4)
	b.more(3)
	b.less(5)
	b.mustList([]api.Run{{At: 0, N: 3}, {At: 3, N: 2}}, []api.Run{{At: 5, N: 4}})
	b.back()
	b.mustList(nil, nil)
	must(t, "Free", b.r.Free(), 20)
	must(t, "Greatest", b.r.Greatest(), 20)
	must(t, "Settle", b.settle(), 0)
}

func TestP12_1BackToSettle(t *testing.T) {
	b := pair(t, 20)
	b.put(1)
	b.put(2)
	b.put(3)
	b.put(4)
	b.more(1)
	b.more(1)
	b.more(6)
	b.less(0)
	must(t, "Settle", b.settle(), 1)
	before := b.r.List()
	for range 3 {
		b.more(1)
		b.less(3)
		b.less(6)
		must(t, "put", b.put(1), 0)
		must(t, "put", b.put(6), 10)
		b.less(10)
		b.mustList([]api.Run{{At: 0, N: 1}, {At: 1, N: 2}, {At: 6, N: 4}}, []api.Run{{At: 3, N: 3}, {At: 10, N: 6}})
		b.back()
		b.mustList([]api.Run{{At: 1, N: 2}, {At: 3, N: 3}, {At: 6, N: 4}}, nil)
		for at, want := range map[int]int{0: 0, 1: 3, 3: 1, 6: 2, 10: 0} {
			must(t, "Uses", b.s.Uses(at), want)
		}
		if l := b.r.List(); !slices.Equal(l, before) {
			t.Fatalf("free: %v, want %v", l, before)
		}
	}
}

// What was used and becomes late is used again, with all its uses.
func TestP12_1BackFromLate(t *testing.T) {
	b := pair(t, 20)
	b.put(4)
	for range 4 {
		b.more(0)
	}
	b.settle()
	for range 5 {
		must(t, "Less", b.less(0), true)
	}
	b.mustList(nil, []api.Run{{At: 0, N: 4}})
	b.back()
	b.mustList([]api.Run{{At: 0, N: 4}}, nil)
	must(t, "Uses", b.s.Uses(0), 5)
	must(t, "Settle", b.settle(), 0)
	must(t, "Free", b.r.Free(), 16)
}

// What is settled cannot be undone, be it an Add, a More or a Less.
func TestP12_1SettledStays(t *testing.T) {
	b := pair(t, 20)
	b.put(4)
	b.put(4)
	b.settle()
	b.put(4)
	b.more(0)
	b.less(4)
	must(t, "Settle", b.settle(), 4)
	b.back()
	b.mustList([]api.Run{{At: 0, N: 4}, {At: 8, N: 4}}, nil)
	must(t, "Uses", b.s.Uses(0), 2)
	must(t, "Uses", b.s.Uses(8), 1)
	must(t, "Free", b.r.Free(), 12)
}

// A second Back gives nothing back, for the blocks may belong to others now.
func TestP12_1BackTwice(t *testing.T) {
	b := pair(t, 20)
	b.put(4)
	b.settle()
	b.put(3)
	b.less(b.put(2))
	b.less(0)
	b.back()
	if at, ok := b.take(16); at != 4 || !ok {
		t.Fatalf("Take = %d, %v", at, ok)
	}
	b.back()
	b.back()
	must(t, "Free", b.r.Free(), 0)
	b.mustList([]api.Run{{At: 0, N: 4}}, nil)
	must(t, "Settle", b.settle(), 0)
	must(t, "Free", b.r.Free(), 0)
}

// Back after Settle does not give back what Settle gave, nor what was added
// before it.
func TestP12_1BackAfterSettle(t *testing.T) {
	b := pair(t, 20)
	b.put(4)
	b.put(2)
	b.less(0)
	must(t, "Settle", b.settle(), 4)
	must(t, "take", b.put(4), 0)
	b.settle()
	b.back()
	b.mustList([]api.Run{{At: 0, N: 4}, {At: 4, N: 2}}, nil)
	must(t, "Free", b.r.Free(), 14)
}

// What was allocated without an Add is none of its runs.
func TestP12_1BackLeavesOthers(t *testing.T) {
	b := pair(t, 20)
	b.put(4)
	b.take(5)
	b.put(4)
	b.back()
	if l := b.r.List(); !slices.Equal(l, []api.Run{{At: 0, N: 4}, {At: 9, N: 11}}) {
		t.Errorf("free: %v", l)
	}
}

func TestP12_1AllBlocks(t *testing.T) {
	r := runs.New(api.MaxBlocks)
	s := New(r)
	for i := range api.MaxBlocks {
		at, ok := r.Take(1)
		if !ok || !s.Add(api.Run{At: at, N: 1}) {
			t.Fatalf("block %d, %d: no", i, at)
		}
	}
	must(t, "runs", len(s.List()), api.MaxBlocks)
	must(t, "Settle", s.Settle(), 0)
	for at := range api.MaxBlocks {
		must(t, "Less", s.Less(at), true)
	}
	must(t, "late", len(s.Late()), api.MaxBlocks)
	must(t, "Free", r.Free(), 0)
	s.Back()
	must(t, "late", len(s.Late()), 0)
	for at := range api.MaxBlocks {
		must(t, "Less", s.Less(at), true)
	}
	must(t, "Settle", s.Settle(), api.MaxBlocks)
	must(t, "Greatest", r.Greatest(), api.MaxBlocks)
	// As one run.
	r.Take(api.MaxBlocks)
	must(t, "Add", s.Add(api.Run{At: 0, N: api.MaxBlocks}), true)
	must(t, "Less", s.Less(0), true)
	must(t, "Free", r.Free(), 0)
	s.Back()
	must(t, "Free", r.Free(), api.MaxBlocks)
	// The last block alone.
	must(t, "Mark", r.Mark(api.MaxBlocks-1, 1), true)
	must(t, "Add", s.Add(api.Run{At: api.MaxBlocks - 1, N: 1}), true)
	must(t, "Less", s.Less(api.MaxBlocks-1), true)
	must(t, "Settle", s.Settle(), 1)
	must(t, "Free", r.Free(), api.MaxBlocks)
}

// play makes the calls that the digits of x to the base 9 tell.
func play(b both, x, steps int) {
	for range steps {
		switch x % 9 {
		case 0:
			b.put(1)
		case 1:
			b.put(2)
		case 2:
			b.more(0)
		case 3:
			b.less(0)
		case 4:
			b.more(1)
		case 5:
			b.less(1)
		case 6:
			b.settle()
		case 7:
			b.back()
		case 8:
			b.take(1)
		}
		x /= 9
	}
}

func TestP12_1EveryCallAfterEveryCall(t *testing.T) {
	const steps, all = 5, 9 * 9 * 9 * 9 * 9
	for x := range all {
		play(pair(t, 3), x, steps)
	}
}

// mark allocates exactly these blocks in r and registers them. A run that is
// known already is added again.
func (b both) mark(at, n int) {
	b.t.Helper()
	_, known := b.p.now[at]
	ok := b.r.Mark(at, n)
	if want := b.p.set(at, n, false); ok != want {
		b.t.Fatalf("Mark(%d, %d) = %v, want %v", at, n, ok, want)
	}
	if ok || known {
		b.add(at, n)
	}
}

// step makes a call that is to have a result often enough. It never adds blocks
// that are not allocated, for then the chapter does not say what becomes free.
func step(b both, rnd *rand.Rand) {
	blocks := len(b.p.free)
	at := rnd.Intn(blocks+2) - 1
	if l := slices.Concat(b.s.List(), b.s.Late()); len(l) > 0 && rnd.Intn(4) > 0 {
		at = l[rnd.Intn(len(l))].At
	}
	switch k := rnd.Intn(20); {
	case k < 6:
		b.put(rnd.Intn(7) - 1)
	case k < 10:
		b.more(at)
	case k < 16:
		b.less(at)
	case k < 17:
		b.mark(at, rnd.Intn(4)-1)
	case k < 18:
		b.take(1)
	case k < 19:
		b.settle()
	default:
		b.back()
	}
}

func TestP12_1AgainstPlain(t *testing.T) {
	for seed := range 150 {
		rnd := rand.New(rand.NewSource(int64(seed)))
		b := pair(t, 1+rnd.Intn(80))
		for range 150 {
			step(b, rnd)
		}
	}
}

func TestP12_1IsTheSameEachTime(t *testing.T) {
	game := func() []api.Run {
		rnd := rand.New(rand.NewSource(4))
		b := pair(t, 60)
		for range 200 {
			step(b, rnd)
		}
		return slices.Concat(b.s.List(), b.s.Late(), b.r.List())
	}
	if one, two := game(), game(); !slices.Equal(one, two) {
		t.Errorf("%v, then %v", one, two)
	}
}

// Two of them on one map of blocks know nothing of each other.
func TestP12_1TwoOnOneMap(t *testing.T) {
	r := runs.New(10)
	one, two := New(r), New(r)
	r.Take(2)
	one.Add(api.Run{At: 0, N: 2})
	r.Take(3)
	two.Add(api.Run{At: 2, N: 3})
	must(t, "Uses", two.Uses(0), 0)
	must(t, "More", one.More(2), false)
	two.Back()
	must(t, "Free", r.Free(), 8)
	must(t, "Uses", one.Uses(0), 1)
	one.Less(0)
	must(t, "Settle", two.Settle(), 0)
	must(t, "Settle", one.Settle(), 2)
	must(t, "Free", r.Free(), 10)
}

func TestP12_1Nil(t *testing.T) {
	if s := New(nil); s != nil {
		t.Errorf("New(nil) = %v", s)
	}
	var s *Shares
	for _, at := range slices.Concat(extremes[:], []int{-1, 0, 1}) {
		must(t, "Add", s.Add(api.Run{At: at, N: 1}), false)
		must(t, "Add", s.Add(api.Run{At: 1, N: at}), false)
		must(t, "More", s.More(at), false)
		must(t, "Less", s.Less(at), false)
		must(t, "Uses", s.Uses(at), 0)
	}
	s.Back()
	must(t, "Settle", s.Settle(), 0)
	if s.List() != nil || s.Late() != nil {
		t.Errorf("%v, %v", s.List(), s.Late())
	}
}

// One that New has not made has no map of blocks, and must not panic either.
func TestP12_1NotMadeByNew(t *testing.T) {
	var s Shares
	must(t, "More", s.More(0), false)
	must(t, "Less", s.Less(0), false)
	must(t, "Settle", s.Settle(), 0)
	s.Back()
	s.Add(api.Run{At: 0, N: 2})
	s.More(0)
	s.Less(0)
	s.Less(0)
	s.Settle()
	s.Add(api.Run{At: 3, N: 2})
	s.Back()
	must(t, "runs", len(s.List())+len(s.Late()), 0)
}
