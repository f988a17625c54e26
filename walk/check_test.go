package walk

import (
	"math"
	"math/rand"
	"slices"
	"testing"

	"concertina/api"
	"concertina/node"
	"concertina/platter"
	"concertina/tree"
)

// plainCheck is which sectors cannot be read, as the chapter tells it.
func (b bench) plainCheck(r tree.Root) [api.MaxSectors]bool {
	var lost [api.MaxSectors]bool
	var look func(k node.Kid, height, from, to int)
	look = func(k node.Kid, height, from, to int) {
		n, e := b.s.Load(k)
		bad := e != api.OK || !node.May(n) || n.Height != height
		for _, key := range n.Keys {
			bad = bad || key < from || key >= to
		}
		if bad {
			for i := from; i < to; i++ {
				lost[i] = true
			}
			return
		}
		for i, key := range n.Keys {
			if height == 0 {
				l, e := b.s.Extent(n.Places[i], n.Gens[i])
				lost[key] = e != api.OK || n.Places[i].Slot >= len(l)
				continue
			}
			end := to
			if i+1 < len(n.Keys) {
				end = n.Keys[i+1]
			}
			look(n.Kids[i], height-1, key, end)
		}
	}
	look(r.Kid, r.Height, 0, api.MaxSectors)
	return lost
}

// rangesOf is the sectors below end that are lost, as ranges.
func rangesOf(lost [api.MaxSectors]bool, end int) []Lost {
	var l []Lost
	for i, is := range lost {
		if !is || i >= end {
			continue
		}
		if i > 0 && lost[i-1] {
			l[len(l)-1].To++
		} else {
			l = append(l, Lost{From: i, To: i + 1})
		}
	}
	return l
}

// check wants these ranges.
func (b bench) check(what string, r tree.Root, sectors int, want ...Lost) {
	b.t.Helper()
	if l := Check(b.s, r, sectors); !slices.Equal(l, want) {
		b.t.Errorf("%s: Check(%v, %d) = %v, want %v", what, r, sectors, l, want)
	}
}

// checkAll wants what the plain one finds, for every number of sectors.
func (b bench) checkAll(what string, r tree.Root) {
	b.t.Helper()
	lost := b.plainCheck(r)
	for sectors := range api.MaxSectors + 3 {
		b.check(what, r, sectors, rangesOf(lost, sectors)...)
	}
}

func TestP17_2CheckOfAnIntactTree(t *testing.T) {
	b := made(t, 2000, 3)
	empty, _ := tree.Empty(b.s)
	var lists [][]tree.Entry
	for i := range 64 {
		lists = append(lists, entries(b.extent(8, i), i, 8*i, 8*i+1, 8*i+2, 8*i+3, 8*i+4, 8*i+5, 8*i+6, 8*i+7))
	}
	p := b.extent(8, 4)
	for _, r := range []tree.Root{empty, b.put(lists...), b.put(lists[3:9]...), b.put(entries(p, 4, 0, 511, 17, 300)), {Kid: b.inner(1, []int{200}, empty.Kid), Height: 1}} {
		for _, sectors := range append(extremes[:], -1, 0, 1, 2, 100, 510, 511, 512, 513, 1000) {
			b.check("an intact tree", r, sectors)
		}
	}
}

// The key range of a node that is not there is known from the nodes above.
func TestP17_2CheckOfOneNode(t *testing.T) {
	b := made(t, 1000, 3)
	p := b.extent(8, 3)
	leaf := func(keys ...int) node.Kid { return b.leaf(entries(p, 3, keys...)...) }
	kids := []node.Kid{leaf(12, 13), leaf(20, 29), leaf(), leaf(35, 39), leaf(60), leaf(511)}
	left := b.inner(1, []int{12, 20, 30}, kids[:3]...)
	middle := b.inner(1, []int{35}, kids[3])
	right := b.inner(1, []int{55, 70}, kids[4:]...)
	top := b.inner(2, []int{10, 34, 50}, left, middle, right)
	r := tree.Root{Kid: top, Height: 2}
	b.check("all there", r, 512)
	for _, c := range []struct {
		kid  node.Kid
		want Lost
	}{
		{top, Lost{0, 512}},
		{left, Lost{10, 34}},
		{middle, Lost{34, 50}},
		{right, Lost{50, 512}},
		{kids[0], Lost{12, 20}},
		{kids[1], Lost{20, 30}},
		{kids[2], Lost{30, 34}},
		{kids[3], Lost{35, 50}},
		{kids[4], Lost{55, 70}},
		{kids[5], Lost{70, 512}},
	} {
		for _, block := range usedBy(c.kid) {
			b.rot(block)
			b.check("a rotten node", r, 512, c.want)
			b.check("a rotten node", r, c.want.To, c.want)
			b.check("a rotten node", r, c.want.To-1, Lost{c.want.From, c.want.To - 1})
			b.check("a rotten node", r, c.want.From+1, Lost{c.want.From, c.want.From + 1})
			b.check("a rotten node", r, c.want.From)
			b.checkAll("a rotten node", r)
			b.rot(block)
		}
	}
	// Two that are adjacent are one range, two that are not are two ranges.
	b.rot(kids[0].At)
	b.rot(kids[1].At)
	b.check("two leaves", r, 512, Lost{12, 30})
	b.rot(kids[2].At)
	b.rot(middle.At)
	b.check("four nodes", r, 512, Lost{12, 50})
	b.rot(kids[1].At)
	b.rot(kids[5].At)
	b.check("four nodes", r, 512, Lost{12, 20}, Lost{30, 50}, Lost{70, 512})
	b.check("four nodes", r, 71, Lost{12, 20}, Lost{30, 50}, Lost{70, 71})
	b.check("four nodes", r, 31, Lost{12, 20}, Lost{30, 31})
	// What is below a node that is not there does not matter.
	b.rot(left.At)
	b.check("also one above", r, 512, Lost{10, 50}, Lost{70, 512})
	b.rot(top.At)
	b.check("also the root", r, 512, Lost{0, 512})
}

// Each node and each extent of a tree such as Put makes it is lost in turn.
func TestP17_2CheckOfAnyNodeOrExtent(t *testing.T) {
	b := made(t, 2000, 3)
	var lists [][]tree.Entry
	for i := range 16 {
		lists = append(lists, entries(b.extent(8, i), i, i, 3*i+20, 7*i+80, 400-i, 449-3*i, 494-2*i, 511-i, 250+5*i))
	}
	r := b.put(lists...)
	if r.Height < 2 {
		t.Fatalf("the height is only %d", r.Height)
	}
	b.check("an intact tree", r, 512)
	for _, x := range b.spots(r) {
		b.rot(x.kid.At)
		b.check("a rotten node", r, 512, Lost{x.from, x.to})
		b.rot(x.kid.At)
	}
	for _, l := range lists {
		b.rot(l[0].P.At + l[0].P.N - 1)
		if got := Check(b.s, r, 512); len(got) < 4 {
			t.Errorf("of %v only %v are lost", l, got)
		}
		b.checkAll("a rotten extent", r)
		b.rot(l[0].P.At + l[0].P.N - 1)
	}
	b.check("an intact tree", r, 512)
}

// Nodes that are there, but not as the nodes above say.
func TestP17_2CheckOfNodesThatDoNotFit(t *testing.T) {
	b := made(t, 1000, 3)
	p := b.extent(8, 3)
	good := b.leaf(entries(p, 3, 20, 29)...)
	last := b.leaf(entries(p, 3, 40, 50)...)
	inner := b.inner(1, []int{20}, good)
	stale := good
	stale.Gen = 2
	for _, c := range []struct {
		what string
		kid  node.Kid
		lost bool
	}{
		{"a good one", good, false},
		{"an empty one", b.leaf(), false},
		{"keys at both bounds", b.leaf(entries(p, 3, 20, 39)...), false},
		{"a key below", b.leaf(entries(p, 3, 19, 25)...), true},
		{"only a key below", b.leaf(entries(p, 3, 0)...), true},
		{"a key at the end", b.leaf(entries(p, 3, 25, 40)...), true},
		{"only a key at the end", b.leaf(entries(p, 3, 40)...), true},
		{"the last key of all", b.leaf(entries(p, 3, 20, 511)...), true},
		{"another height", inner, true},
		{"another generation", stale, true},
		{"an invalid node", b.frame(3, []byte{0, 2, 30, 2, 1, 1, 1, 25, 2, 1, 1, 1}), true},
		{"half a node", b.frame(3, []byte{0, 1, 25, 2}), true},
		{"nine keys", b.frame(3, []byte{0, 9}), true},
		{"too high a node", b.frame(3, []byte{6, 0}), true},
		{"an inner node without keys", b.frame(3, []byte{1, 0}), true},
		{"an extent", node.Kid{At: p.At, N: p.N, Gen: 3}, true},
		{"nothing", node.Kid{At: 900, N: 1, Gen: 3}, true},
		{"a run that is too long", node.Kid{At: good.At, N: good.N + 1, Gen: 3}, true},
		{"the last block and one more", node.Kid{At: 999, N: 2, Gen: 3}, true},
		{"blocks that do not exist", node.Kid{At: 1000, N: 1, Gen: 3}, true},
	} {
		r := tree.Root{Kid: b.inner(1, []int{20, 40}, c.kid, last), Height: 1}
		if c.lost {
			b.check(c.what, r, 512, Lost{20, 40})
		} else {
			b.check(c.what, r, 512)
		}
		b.checkAll(c.what, r)
		// Also where the bound comes from a node further above.
		low := b.inner(1, []int{20}, c.kid)
		r = tree.Root{Kid: b.inner(2, []int{15, 40}, low, b.inner(1, []int{40}, last)), Height: 2}
		if c.lost {
			b.check(c.what, r, 512, Lost{20, 40})
		} else {
			b.check(c.what, r, 512)
		}
	}
	// An inner node's keys have bounds as well.
	for _, c := range []struct {
		keys []int
		want []Lost
	}{
		{[]int{15, 20}, nil},
		{[]int{20, 39}, nil},
		{[]int{14, 20}, []Lost{{15, 40}}},
		{[]int{20, 40}, []Lost{{15, 40}}},
	} {
		empty := b.leaf()
		low := b.inner(1, c.keys, empty, empty)
		r := tree.Root{Kid: b.inner(2, []int{15, 40}, low, b.inner(1, []int{40}, last)), Height: 2}
		b.check("an inner node", r, 512, c.want...)
	}
}

func TestP17_2CheckOfARootThatIsLost(t *testing.T) {
	b := made(t, 64, 3)
	r := b.put(entries(b.extent(2, 3), 3, 7, 8))
	roots := []tree.Root{{}, {Height: 1}}
	for _, x := range append(extremes[:], -1, 64) {
		roots = append(roots,
			tree.Root{Kid: r.Kid, Height: x},
			tree.Root{Kid: node.Kid{At: x, N: 1, Gen: 3}},
			tree.Root{Kid: node.Kid{At: r.Kid.At, N: x, Gen: 3}},
			tree.Root{Kid: node.Kid{At: r.Kid.At, N: 1, Gen: x}},
			tree.Root{Kid: node.Kid{At: x, N: x, Gen: x}, Height: x},
		)
	}
	for _, height := range []int{1, api.MaxHeight - 1, api.MaxHeight, api.MaxHeight + 1} {
		roots = append(roots, tree.Root{Kid: r.Kid, Height: height})
	}
	for _, lost := range roots {
		for _, sectors := range []int{1, 2, 7, 8, 100, 511, 512} {
			b.check("a lost root", lost, sectors, Lost{0, sectors})
		}
		for _, sectors := range []int{0, -1, -512, math.MinInt} {
			b.check("a lost root", lost, sectors)
		}
		// There are no sectors beyond the limit.
		for _, sectors := range []int{513, 1024, 1 << 32, math.MaxInt} {
			b.check("a lost root", lost, sectors, Lost{0, 512})
		}
	}
	b.check("the root that is there", r, 512)
}

func TestP17_2CheckWithoutASlab(t *testing.T) {
	b := made(t, 64, 3)
	for _, r := range []tree.Root{{}, b.put(entries(b.extent(1, 3), 3, 7))} {
		for _, sectors := range []int{-1, 0, 5, 512} {
			if l := Check(nil, r, sectors); l != nil {
				t.Errorf("Check(nil, %v, %d) = %v", r, sectors, l)
			}
		}
	}
}

func TestP17_2CheckOfSlots(t *testing.T) {
	for sectors := 1; sectors <= api.Slots; sectors++ {
		b := made(t, 200, 3)
		p := b.extent(sectors, 3)
		r := b.put(entries(p, 3, 10, 11, 12, 13, 14, 15, 16, 17))
		if sectors == api.Slots {
			b.check("all slots", r, 512)
		} else {
			b.check("some slots", r, 512, Lost{10 + sectors, 18})
		}
		// The slots are the extent's, whichever sectors are in them.
		l := entries(p, 3, 17, 16, 15, 14, 13, 12, 11, 10)
		b.checkAll("slots in disorder", b.put(l))
		for _, x := range l {
			r := b.put([]tree.Entry{x})
			if x.P.Slot < sectors {
				b.check("a slot", r, 512)
			} else {
				b.check("no slot", r, 512, Lost{x.Key, x.Key + 1})
			}
		}
	}
}

func TestP17_2CheckOfExtentsThatAreNotThere(t *testing.T) {
	b := made(t, 200, 3)
	p, q := b.extent(3, 1<<28-1), b.extent(2, 0)
	k := b.leaf()
	at := func(at, n, gen int) tree.Entry {
		return tree.Entry{Key: 20, P: api.Place{At: at, N: n, Slot: 1}, Gen: gen}
	}
	b.rot(q.At + 1)
	for _, c := range []struct {
		what string
		x    tree.Entry
		lost bool
	}{
		{"one that is there", at(p.At, p.N, 1<<28-1), false},
		{"an earlier generation", at(p.At, p.N, 1<<28-2), true},
		{"generation 0", at(p.At, p.N, 0), true},
		{"a rotten one", at(q.At, q.N, 0), true},
		{"a rotten one of another generation", at(q.At, q.N, 1), true},
		{"one block more", at(p.At, p.N+1, 1<<28-1), true},
		{"one block less", at(p.At, p.N-1, 1<<28-1), true},
		{"one block later", at(p.At+1, p.N-1, 1<<28-1), true},
		{"nothing", at(150, 3, 0), true},
		{"a node", at(k.At, k.N, 3), true},
		{"a crown's block", at(0, 1, 0), true},
		{"the last block and one more", at(199, 2, 0), true},
		{"blocks that do not exist", at(200, 1, 0), true},
		{"the last blocks that there can be", at(api.MaxBlocks-128, 128, 0), true},
	} {
		// Those beside it are there.
		r := b.put([]tree.Entry{c.x}, entries(p, 1<<28-1, 19, 21, 500))
		if c.lost {
			b.check(c.what, r, 512, Lost{20, 21})
			b.check(c.what, r, 21, Lost{20, 21})
			b.check(c.what, r, 20)
		} else {
			b.check(c.what, r, 512)
		}
	}
}

// Sectors next to each other are one range, whether they are in one leaf, in one
// extent, or lost for one reason.
func TestP17_2CheckJoinsRanges(t *testing.T) {
	b := made(t, 300, 3)
	p, q, good := b.extent(8, 3), b.extent(8, 4), b.extent(8, 5)
	low := b.leaf(append(entries(p, 3, 10, 17, 18), entries(q, 4, 19)...)...)
	middle := b.leaf(entries(good, 5, 25)...)
	high := b.leaf(append(append(entries(q, 4, 30), entries(p, 3, 31)...), entries(good, 5, 33, 34, 35)...)...)
	r := tree.Root{Kid: b.inner(1, []int{10, 20, 30}, low, middle, high), Height: 1}
	b.check("all there", r, 512)
	b.rot(p.At)
	b.check("an extent", r, 512, Lost{10, 11}, Lost{17, 19}, Lost{31, 32})
	b.rot(q.At)
	b.check("two extents", r, 512, Lost{10, 11}, Lost{17, 20}, Lost{30, 32})
	b.rot(middle.At)
	b.check("two extents and a leaf", r, 512, Lost{10, 11}, Lost{17, 32})
	b.check("two extents and a leaf", r, 31, Lost{10, 11}, Lost{17, 31})
	b.rot(high.At)
	b.check("an extent and two leaves", r, 512, Lost{10, 11}, Lost{17, 512})
	b.rot(middle.At)
	b.check("two extents and a leaf", r, 512, Lost{10, 11}, Lost{17, 20}, Lost{30, 512})
}

// A tree of the greatest height, in which each node has one child.
func TestP17_2CheckOfAHighTree(t *testing.T) {
	b := made(t, 300, 3)
	p := b.extent(8, 3)
	for height := range api.MaxHeight {
		kids := []node.Kid{b.leaf(entries(p, 3, 100+height, 400)...)}
		for h := 1; h <= height; h++ {
			kids = append(kids, b.inner(h, []int{100 + height - h}, kids[h-1]))
		}
		r := tree.Root{Kid: kids[height], Height: height}
		b.check("a high tree", r, 512)
		for h, k := range kids {
			from := 100 + height - h - 1
			if h == height {
				from = 0
			}
			b.rot(k.At)
			b.check("a rotten node", r, 512, Lost{from, 512})
			b.rot(k.At)
		}
		b.check("another height", tree.Root{Kid: r.Kid, Height: height + 1}, 512, Lost{0, 512})
		b.check("another height", tree.Root{Kid: r.Kid, Height: height - 1}, 512, Lost{0, 512})
	}
}

// bad is extents that are there and such as are not.
func (f forest) bad() forest {
	for gen := range 4 {
		p := f.extent(1+f.Intn(8), gen)
		for slot := range 8 {
			p.Slot = slot
			f.pool = append(f.pool, tree.Entry{P: p, Gen: gen})
		}
		if f.Intn(3) == 0 {
			f.pool = append(f.pool, tree.Entry{P: p, Gen: gen + 1})
		}
		if f.Intn(3) == 0 {
			p.N++
			f.pool = append(f.pool, tree.Entry{P: p, Gen: gen})
		}
	}
	return f
}

func TestP17_2CheckAtRandom(t *testing.T) {
	rnd := rand.New(rand.NewSource(2))
	most := 0
	for i := range 1200 {
		b := made(t, 3000, 1)
		f := forest{bench: b, Rand: rnd, odd: []float64{0, 0.03, 0.1}[i%3]}.bad()
		r := f.tree(i % api.MaxHeight)
		b.p.Sync()
		for range rnd.Intn(4) {
			b.rot(2 + rnd.Intn(b.r.List()[0].At-2))
		}
		lost := b.plainCheck(r)
		for _, sectors := range []int{512, rnd.Intn(512), rnd.Intn(64), 600} {
			want := rangesOf(lost, sectors)
			most = max(most, len(want))
			b.check("a random tree", r, sectors, want...)
		}
	}
	if most < 20 {
		t.Errorf("there were at most %d ranges", most)
	}
}

// What can be read is what package tree finds, in an extent that package slab
// returns: Get meets just those nodes whose key range has the sector.
func TestP17_2CheckIsWhatReadersMeet(t *testing.T) {
	rnd := rand.New(rand.NewSource(4))
	seen := map[bool]int{}
	for i := range 200 {
		b := made(t, 3000, 1)
		f := forest{bench: b, Rand: rnd, odd: 0.03}.bad()
		r := f.tree(i % 5)
		b.rot(2 + rnd.Intn(b.r.List()[0].At-2))
		lost := Check(b.s, r, 512)
		for sector := range api.MaxSectors {
			x, is, e := tree.Get(b.s, r, sector)
			bad := e != api.OK
			if is {
				l, e := b.s.Extent(x.P, x.Gen)
				bad = e != api.OK || x.P.Slot >= len(l)
			}
			seen[bad]++
			if bad != slices.ContainsFunc(lost, func(l Lost) bool { return sector >= l.From && sector < l.To }) {
				t.Fatalf("sector %d cannot be read: %v, but lost are %v", sector, bad, lost)
			}
		}
	}
	if seen[true] < 1000 || seen[false] < 1000 {
		t.Errorf("of the sectors %v cannot be read", seen)
	}
}

// Each read of the platter fails once: the node's key range or the extent's
// sectors are lost, and are there again in the next call.
func TestP17_2CheckWithFailingReads(t *testing.T) {
	b := made(t, 1000, 3)
	var lists [][]tree.Entry
	for i := range 6 {
		lists = append(lists, entries(b.extent(5, i), i, 10*i, 90*i+6, 90*i+8, 90*i+9, 490-10*i))
	}
	r := b.put(lists...)
	could := map[Lost]int{}
	blocks := 0
	for _, x := range b.spots(r) {
		could[Lost{x.from, x.to}]++
		blocks += x.kid.N
	}
	for _, l := range lists {
		blocks += l[0].P.N
	}
	before := b.p.Count(platter.Read)
	b.check("no failing read", r, 512)
	// Each node and each extent is read once.
	if reads := b.p.Count(platter.Read) - before; reads != blocks {
		t.Errorf("%d reads of %d blocks", reads, blocks)
	}
	extents, nodes := 0, 0
	for i := range blocks {
		b.p.Fail([]platter.Fault{{Op: platter.Read, At: i + 1}})
		l := Check(b.s, r, 512)
		if len(l) == 1 && could[l[0]] > 0 {
			nodes++
		} else if slices.ContainsFunc(lists, func(x []tree.Entry) bool { return slices.Equal(l, rangesOf(sectorsOf(x), 512)) }) {
			extents++
		} else {
			t.Errorf("when read %d fails, lost are %v", i+1, l)
		}
		b.check("no failing read", r, 512)
	}
	if extents != 6*lists[0][0].P.N || nodes != blocks-extents {
		t.Errorf("%d reads of extents, %d of nodes", extents, nodes)
	}
	b.p.Fail([]platter.Fault{{Op: platter.Read, At: 1}})
	b.check("a failing root", r, 512, Lost{0, 512})
}

// sectorsOf is the sectors that are lost with an extent.
func sectorsOf(l []tree.Entry) [api.MaxSectors]bool {
	var lost [api.MaxSectors]bool
	for _, x := range l {
		lost[x.Key] = true
	}
	return lost
}

func TestP17_2CheckChangesNothing(t *testing.T) {
	b := made(t, 500, 6)
	r := b.put(entries(b.extent(3, 6), 6, 1, 2, 3, 4, 5, 60, 61, 62, 63, 64, 65, 66, 400))
	b.same("Check", func() {
		Check(b.s, r, 512)
		Check(b.s, r, 50)
		Check(b.s, tree.Root{}, 512)
	})
	b.p.Fail([]platter.Fault{{Op: platter.Read, At: 2}})
	b.same("a Check with a failing read", func() { Check(b.s, r, 512) })
}

func TestP17_2CheckIsNewMemory(t *testing.T) {
	b := made(t, 500, 6)
	r := b.put(entries(b.extent(3, 6), 5, 1, 3, 5, 7))
	want := []Lost{{1, 2}, {3, 4}, {5, 6}, {7, 8}}
	x, y := Check(b.s, r, 512), Check(b.s, r, 512)
	clear(x[:cap(x)])
	if !slices.Equal(y, want) {
		t.Errorf("two results share memory: %v", y)
	}
	b.check("another generation", r, 512, want...)
}
