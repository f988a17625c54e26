package walk

import (
	"math/rand"
	"reflect"
	"slices"
	"testing"

	"concertina/api"
	"concertina/runs"
	"concertina/shares"
	"concertina/tree"
)

func extentAt(at, n int, sectors ...int) Use {
	return Use{Run: api.Run{At: at, N: n}, Gen: 1, Sectors: sectors}
}

func nodeAt(at, n int) Use {
	return Use{Run: api.Run{At: at, N: n}, Gen: 1, Node: true}
}

// plainFill is which blocks are free, as the chapter tells it.
func plainFill(u []Use, blocks int) ([]bool, api.Errno) {
	if blocks < 2 || blocks > 1<<13 {
		return nil, api.ErrForm
	}
	free := make([]bool, blocks)
	for i := range free {
		free[i] = i > 1
	}
	for _, x := range u {
		if x.Run.N < 1 || x.Run.At < 0 || x.Run.At >= blocks || x.Run.N > blocks-x.Run.At {
			return nil, api.ErrForm
		}
		for i := range x.Run.N {
			if !free[x.Run.At+i] {
				return nil, api.ErrForm
			}
			free[x.Run.At+i] = false
		}
	}
	return free, api.OK
}

// mustFill wants that Fill returns what the plain one returns.
func mustFill(t *testing.T, u []Use, blocks int) (*runs.Runs, *shares.Shares) {
	t.Helper()
	free, e := plainFill(u, blocks)
	if e != api.OK {
		t.Fatalf("the plain Fill of %v: %v", u, e)
	}
	r, s, e := Fill(u, blocks)
	if e != api.OK || r == nil || s == nil {
		t.Fatalf("Fill(%v, %d): %v", u, blocks, e)
	}
	mustBeFree(t, r, free)
	var used []api.Run
	for _, x := range u {
		used = append(used, x.Run)
		want := len(x.Sectors)
		if want == 0 || x.Node {
			want = 1
		}
		if n := s.Uses(x.Run.At); n != want {
			t.Errorf("Fill(%v, %d): %d uses of %v, want %d", u, blocks, n, x.Run, want)
		}
	}
	slices.SortFunc(used, func(a, b api.Run) int { return a.At - b.At })
	if l := s.List(); !slices.Equal(l, used) {
		t.Errorf("Fill(%v, %d): in use are %v", u, blocks, l)
	}
	if l := s.Late(); len(l) > 0 {
		t.Errorf("Fill(%v, %d): late are %v", u, blocks, l)
	}
	return r, s
}

// mustBeFree wants that just these blocks are free, and that there are no more.
func mustBeFree(t *testing.T, r *runs.Runs, free []bool) {
	t.Helper()
	var want []api.Run
	for i, is := range free {
		if is && i > 0 && free[i-1] {
			want[len(want)-1].N++
		} else if is {
			want = append(want, api.Run{At: i, N: 1})
		}
	}
	if l := r.List(); !slices.Equal(l, want) {
		t.Errorf("free are %v, want %v", l, want)
	}
	// An allocated block can be given back, one that does not exist cannot.
	c := r.Copy()
	for i, is := range free {
		if !is && !c.Give(i, 1) {
			t.Errorf("there is no block %d", i)
		}
	}
	if c.Give(len(free), 1) {
		t.Errorf("there is a block %d", len(free))
	}
}

func mustNotFill(t *testing.T, u []Use, blocks int) {
	t.Helper()
	if r, s, e := Fill(u, blocks); r != nil || s != nil || e != api.ErrForm {
		t.Errorf("Fill(%v, %d) = %v, %v, %v, want nothing, ErrForm", u, blocks, r, s, e)
	}
}

func TestP17_1Fill(t *testing.T) {
	for _, u := range [][]Use{
		nil,
		{},
		{nodeAt(2, 1)},
		{nodeAt(2, 62)},
		{nodeAt(63, 1)},
		{extentAt(2, 3, 7), nodeAt(5, 1), extentAt(9, 4, 0, 1, 511)},
		{extentAt(9, 4, 0, 1, 511), nodeAt(5, 1), extentAt(2, 3, 7)},
		{extentAt(60, 4, 1, 2, 3, 4, 5, 6, 7, 8), extentAt(2, 58, 9)},
		{nodeAt(10, 1), nodeAt(12, 1), nodeAt(11, 1), nodeAt(20, 2)},
	} {
		mustFill(t, u, 64)
	}
}

func TestP17_1FillUses(t *testing.T) {
	all := make([]int, api.MaxSectors)
	for i := range all {
		all[i] = i
	}
	for _, n := range []int{0, 1, 2, 7, 8, 9, 511, 512} {
		x := extentAt(5, 2, all[:n]...)
		mustFill(t, []Use{x}, 64)
		// A node has one use, and no sectors that mean anything.
		x.Node = true
		_, s := mustFill(t, []Use{x, extentAt(7, 1, all[:n]...)}, 64)
		if got := s.Uses(5); got != 1 {
			t.Errorf("%d uses of a node", got)
		}
	}
	// There are just so many uses: after them the run is late.
	_, s := mustFill(t, []Use{extentAt(5, 2, 3, 4, 9), nodeAt(8, 1)}, 64)
	for i := range 3 {
		if len(s.Late()) > 0 || !s.Less(5) {
			t.Errorf("there are only %d uses", i)
		}
	}
	if s.Less(5) || !s.Less(8) || s.Less(8) {
		t.Error("there are other uses")
	}
	if l := s.Late(); !slices.Equal(l, []api.Run{{At: 5, N: 2}, {At: 8, N: 1}}) {
		t.Errorf("late are %v", l)
	}
}

// Numbers that no tree has are accepted where the chapter does not reject them.
func TestP17_1FillOfAnyNumbers(t *testing.T) {
	for _, x := range extremes {
		u := extentAt(5, 2, x, 3, x)
		u.Gen = x
		mustFill(t, []Use{u, {Run: api.Run{At: 9, N: 1}, Gen: x, Node: true}}, 64)
	}
	// A tree's runs have at most 128 blocks.
	mustFill(t, []Use{extentAt(2, 129, 1), nodeAt(131, 8000)}, api.MaxBlocks)
}

func TestP17_1FillBlocks(t *testing.T) {
	for _, blocks := range []int{2, 3, 4, 63, 64, 65, 4096, api.MaxBlocks - 1, api.MaxBlocks} {
		r, _ := mustFill(t, nil, blocks)
		if r.Free() != blocks-2 {
			t.Errorf("%d of %d blocks are free", r.Free(), blocks)
		}
		if blocks > 2 {
			mustFill(t, []Use{nodeAt(2, blocks-2)}, blocks)
			mustFill(t, []Use{nodeAt(blocks-1, 1)}, blocks)
		}
		mustNotFill(t, []Use{nodeAt(2, blocks-1)}, blocks)
		mustNotFill(t, []Use{nodeAt(blocks-1, 2)}, blocks)
		mustNotFill(t, []Use{nodeAt(blocks, 1)}, blocks)
	}
	for _, blocks := range append(extremes[:], -64, -2, -1, 0, 1, api.MaxBlocks+1, api.MaxBlocks+2, 2*api.MaxBlocks) {
		mustNotFill(t, nil, blocks)
		mustNotFill(t, []Use{nodeAt(2, 1)}, blocks)
	}
}

func TestP17_1FillRuns(t *testing.T) {
	bad := []Use{
		nodeAt(0, 1), nodeAt(1, 1), nodeAt(0, 2), nodeAt(1, 2), nodeAt(0, 64), nodeAt(1, 63), nodeAt(0, 65),
		nodeAt(2, 63), nodeAt(63, 2), nodeAt(64, 1), nodeAt(65, 1), nodeAt(8192, 1),
		nodeAt(5, 0), nodeAt(5, -1), nodeAt(5, -5), nodeAt(64, 0), nodeAt(64, -1), nodeAt(0, 0), nodeAt(1, -1), nodeAt(70, -10),
		nodeAt(-1, 1), nodeAt(-1, 2), nodeAt(-1, 4), nodeAt(-64, 1), nodeAt(-64, 70), nodeAt(-1, 0), nodeAt(-1, -1),
	}
	for _, x := range extremes {
		bad = append(bad, nodeAt(5, x), nodeAt(0, x), nodeAt(x, 1), nodeAt(x, 5), nodeAt(x, 64), nodeAt(x, -1))
		for _, y := range extremes {
			bad = append(bad, nodeAt(x, y))
		}
		// The sum wraps round.
		bad = append(bad, nodeAt(x, 20-x), nodeAt(20, x-20), nodeAt(x, 64-x))
	}
	good := []Use{nodeAt(2, 1), extentAt(30, 4, 1, 2), nodeAt(61, 2)}
	for _, x := range bad {
		mustNotFill(t, []Use{x}, 64)
		x.Node, x.Sectors = false, []int{1, 2}
		for i := range len(good) + 1 {
			mustNotFill(t, slices.Insert(slices.Clone(good), i, x), 64)
		}
	}
	mustFill(t, good, 64)
}

func TestP17_1FillBlocksInCommon(t *testing.T) {
	for at := 2; at < 16; at++ {
		for n := 1; n <= 16-at; n++ {
			x, y := extentAt(8, 4, 1, 2), nodeAt(at, n)
			if at >= 12 || at+n <= 8 {
				mustFill(t, []Use{x, y}, 16)
				mustFill(t, []Use{y, x}, 16)
				continue
			}
			mustNotFill(t, []Use{x, y}, 16)
			mustNotFill(t, []Use{y, x}, 16)
			// It does not matter what they are, nor what is between them.
			y.Node = false
			mustNotFill(t, []Use{x, y}, 16)
			mustNotFill(t, []Use{x, nodeAt(20, 5), nodeAt(30, 5), y}, 64)
		}
	}
	x := nodeAt(8, 4)
	mustNotFill(t, []Use{x, x}, 16)
}

func TestP17_1FillAtRandom(t *testing.T) {
	rnd := rand.New(rand.NewSource(1))
	seen := map[api.Errno]int{}
	for range 4000 {
		blocks := 2 + rnd.Intn(60)
		var u []Use
		for range rnd.Intn(8) {
			x := extentAt(rnd.Intn(blocks), 1+rnd.Intn(4), rnd.Perm(rnd.Intn(9))...)
			x.Node = rnd.Intn(2) == 0
			if _, e := plainFill(append(u, x), blocks); e == api.OK || rnd.Intn(12) == 0 {
				u = append(u, x)
			}
		}
		_, e := plainFill(u, blocks)
		seen[e]++
		if e == api.OK {
			mustFill(t, u, blocks)
		} else {
			mustNotFill(t, u, blocks)
		}
	}
	if seen[api.OK] < 1000 || seen[api.ErrForm] < 300 {
		t.Errorf("seen are %v", seen)
	}
}

// All blocks of the greatest platter are in use, each on its own, and are named
// in disorder.
func TestP17_1FillOfAllBlocks(t *testing.T) {
	var u []Use
	for _, i := range rand.New(rand.NewSource(1)).Perm(api.MaxBlocks - 2) {
		u = append(u, nodeAt(i+2, 1))
	}
	if r, _ := mustFill(t, u, api.MaxBlocks); r.Free() != 0 {
		t.Errorf("%d blocks are free", r.Free())
	}
	mustNotFill(t, append(u, nodeAt(5000, 1)), api.MaxBlocks)
}

// Fill calls Settle at its end: Back returns to what Fill has returned.
func TestP17_1FillSettles(t *testing.T) {
	u := []Use{extentAt(5, 2, 3, 4, 9), nodeAt(8, 1), extentAt(20, 7)}
	r, s := mustFill(t, u, 64)
	before := r.List()
	s.Back()
	if l := s.List(); len(l) != 3 || !slices.Equal(r.List(), before) {
		t.Fatalf("after Back in use are %v, free are %v", l, r.List())
	}
	at, _ := r.Take(3)
	s.Add(api.Run{At: at, N: 3})
	s.More(20)
	s.Less(5)
	s.Less(8)
	s.Back()
	for i, want := range []int{3, 1, 1} {
		if n := s.Uses(u[i].Run.At); n != want {
			t.Errorf("after Back there are %d uses of %v, want %d", n, u[i].Run, want)
		}
	}
	if !slices.Equal(r.List(), before) || len(s.List()) != 3 || len(s.Late()) > 0 {
		t.Errorf("after Back in use are %v, late are %v, free are %v", s.List(), s.Late(), r.List())
	}
}

// The counts give back to the map that is returned with them.
func TestP17_1FillCountsForItsMap(t *testing.T) {
	r, s := mustFill(t, []Use{nodeAt(5, 2), nodeAt(8, 1)}, 64)
	s.Less(5)
	if r.Free() != 59 || s.Settle() != 2 || r.Free() != 61 {
		t.Errorf("%d blocks are free", r.Free())
	}
	if l := r.List(); !slices.Equal(l, []api.Run{{At: 2, N: 6}, {At: 9, N: 55}}) {
		t.Errorf("free are %v", l)
	}
}

func TestP17_1FillLeavesItsArgument(t *testing.T) {
	spare := append(make([]Use, 0, 9), nodeAt(30, 1), extentAt(5, 2, 3, 4), extentAt(20, 7))
	u := spare[:2]
	before := []Use{nodeAt(30, 1), extentAt(5, 2, 3, 4), extentAt(20, 7)}
	r, s := mustFill(t, u, 64)
	if !reflect.DeepEqual(spare, before) || !reflect.DeepEqual(spare[:9][3:], make([]Use, 6)) {
		t.Errorf("the argument is now %v", spare[:9])
	}
	u[0], u[1].Run, u[1].Sectors[0] = nodeAt(40, 4), api.Run{At: 50, N: 1}, 77
	if s.Uses(30) != 1 || s.Uses(5) != 2 || len(s.List()) != 2 || r.Free() != 59 {
		t.Errorf("in use are now %v", s.List())
	}
	// Two results have nothing to do with each other.
	r2, s2 := mustFill(t, before, 64)
	r.Take(10)
	s.Less(5)
	if r2.Free() != 52 || s2.Uses(5) != 2 {
		t.Error("two results share memory")
	}
}

// What Uses returns for a slab's only tree is what the slab has taken.
func TestP17_1FillOfUses(t *testing.T) {
	b := made(t, 700, 1)
	rnd := rand.New(rand.NewSource(3))
	r, _ := tree.Empty(b.s)
	for gen := 1; gen < 60; gen++ {
		b.s.Gen(gen)
		keys := rnd.Perm(api.MaxSectors)[:1+rnd.Intn(api.Slots)]
		q, e := tree.Put(b.s, r, entries(b.extent(len(keys), gen), gen, keys...))
		if e != api.OK {
			t.Fatal(e)
		}
		r = q
		u, e := Uses(b.s, r)
		if e != api.OK {
			t.Fatal(e)
		}
		free, counts := mustFill(t, u, 700)
		// What the tree does not use is freed, and the rest is what Fill says.
		for _, x := range b.sh.List() {
			for b.sh.Uses(x.At) > counts.Uses(x.At) {
				b.sh.Less(x.At)
			}
			for n := b.sh.Uses(x.At); n > 0 && n < counts.Uses(x.At); n++ {
				b.sh.More(x.At)
			}
		}
		b.sh.Settle()
		if !slices.Equal(b.r.List(), free.List()) || !slices.Equal(b.sh.List(), counts.List()) {
			t.Fatalf("free are %v, and %v by Fill", b.r.List(), free.List())
		}
	}
	if l, _ := Uses(b.s, r); len(l) < 50 || r.Height < 2 {
		t.Errorf("only %d uses at last", len(l))
	}
}
