package walk

import (
	"cmp"
	"math/rand"
	"reflect"
	"slices"
	"testing"

	"concertina/api"
	"concertina/extent"
	"concertina/leaf"
	"concertina/node"
	"concertina/platter"
	"concertina/tree"
)

// plainUses is the uses of a tree that is intact, as the chapter tells it.
func (b bench) plainUses(r tree.Root) ([]Use, api.Errno) {
	b.t.Helper()
	var nodes, extents []Use
	for _, x := range b.spots(r) {
		nodes = append(nodes, Use{Run: api.Run{At: x.kid.At, N: x.kid.N}, Gen: x.kid.Gen, Node: true})
		for i, key := range x.n.Keys {
			if x.n.Height > 0 {
				break
			}
			run := api.Run{At: x.n.Places[i].At, N: x.n.Places[i].N}
			at := slices.IndexFunc(extents, func(u Use) bool { return u.Run == run })
			if at < 0 {
				at = len(extents)
				extents = append(extents, Use{Run: run, Gen: x.n.Gens[i]})
			}
			if extents[at].Gen != x.n.Gens[i] {
				return nil, api.ErrForm
			}
			extents[at].Sectors = append(extents[at].Sectors, key)
		}
	}
	var blocks [api.MaxBlocks]int
	out := slices.Concat(nodes, extents)
	for _, u := range out {
		slices.Sort(u.Sectors)
		for i := range u.Run.N {
			if blocks[u.Run.At+i]++; blocks[u.Run.At+i] > 1 {
				return nil, api.ErrForm
			}
		}
	}
	slices.SortFunc(out, func(a, b Use) int { return cmp.Compare(a.Run.At, b.Run.At) })
	return out, api.OK
}

// uses wants just these uses, in this order.
func (b bench) uses(r tree.Root, want []Use) {
	b.t.Helper()
	if l, e := Uses(b.s, r); e != api.OK || !sameUses(l, want) {
		b.t.Errorf("Uses = %+v, %v, want %+v", l, e, want)
	}
}

func (b bench) noUses(what string, r tree.Root, want api.Errno) {
	b.t.Helper()
	if l, e := Uses(b.s, r); e != want || l != nil {
		b.t.Errorf("%s: Uses = %d uses, %v, want none, %v", what, len(l), e, want)
	}
}

func sameUses(a, b []Use) bool {
	return slices.EqualFunc(a, b, func(x, y Use) bool {
		return x.Run == y.Run && x.Gen == y.Gen && x.Node == y.Node && slices.Equal(x.Sectors, y.Sectors)
	})
}

func TestP17_1UsesOfOneLeaf(t *testing.T) {
	b := made(t, 100, 7)
	r, _ := tree.Empty(b.s)
	b.uses(r, []Use{{Run: api.Run{At: 2, N: 1}, Gen: 7, Node: true}})
	// The sector that is greater comes first on the platter.
	high, low := b.extent(3, 5), b.extent(2, 6)
	r = b.put(entries(high, 5, 300, 511, 299), entries(low, 6, 0))
	b.uses(r, []Use{
		{Run: api.Run{At: 3, N: 7}, Gen: 5, Sectors: []int{299, 300, 511}},
		{Run: api.Run{At: 10, N: 5}, Gen: 6, Sectors: []int{0}},
		{Run: api.Run{At: 16, N: 1}, Gen: 7, Node: true},
	})
}

// Nodes of three heights and three generations, and extents whose sectors are in
// many leaves.
func TestP17_1Uses(t *testing.T) {
	b := made(t, 1000, 3)
	extents := map[int]api.Place{}
	var l []tree.Entry
	for gen := range 5 {
		extents[gen] = b.extent(1+gen, gen)
		var keys []int
		for i := range 20 {
			keys = append(keys, 500-23*i-gen)
		}
		l = append(l, entries(extents[gen], gen, keys...)...)
	}
	r := b.put(l)
	b.s.Gen(4)
	r, _ = tree.Put(b.s, r, entries(extents[1], 1, 500, 21))
	b.s.Gen(1<<28 - 1)
	r, _ = tree.Cut(b.s, r, []int{499})
	got, e := Uses(b.s, r)
	want, _ := b.plainUses(r)
	if e != api.OK || !sameUses(got, want) {
		t.Fatalf("Uses = %+v, %v, want %+v", got, e, want)
	}
	kids, _ := tree.Nodes(b.s, r)
	gens := map[int]int{}
	sectors := 0
	for _, u := range got {
		sectors += len(u.Sectors)
		if u.Node {
			gens[u.Gen]++
			if !slices.Contains(kids, node.Kid{At: u.Run.At, N: u.Run.N, Gen: u.Gen}) || u.Sectors != nil {
				t.Errorf("%+v is no node", u)
			}
		}
	}
	if r.Height < 2 || len(gens) != 3 || len(got) != len(kids)+5 || sectors != 100 {
		t.Errorf("height %d, nodes of generations %v, %d uses, %d sectors", r.Height, gens, len(got), sectors)
	}
}

// What is in use on the slab, but not in this tree, is not among its uses.
func TestP17_1UsesOfOneTreeOfMany(t *testing.T) {
	b := made(t, 1000, 3)
	p, q := b.extent(4, 3), b.extent(4, 3)
	one := b.put(entries(p, 3, 1, 2, 3, 4))
	two, _ := tree.Put(b.s, one, entries(q, 3, 2, 3))
	three, _ := tree.Cut(b.s, two, []int{1, 4})
	node := func(r tree.Root) Use {
		return Use{Run: api.Run{At: r.Kid.At, N: r.Kid.N}, Gen: 3, Node: true}
	}
	of := func(p api.Place, sectors ...int) Use {
		return Use{Run: api.Run{At: p.At, N: p.N}, Gen: 3, Sectors: sectors}
	}
	for range 2 {
		b.uses(one, []Use{of(p, 1, 2, 3, 4), node(one)})
		b.uses(two, []Use{of(p, 1, 4), of(q, 2, 3), node(two)})
		b.uses(three, []Use{of(q, 2, 3), node(three)})
	}
}

// One extent with all sectors, and one for each sector. Uses does not look at
// the extents, so they need not be there.
func TestP17_1UsesOfAllSectors(t *testing.T) {
	b := made(t, 1000, 1)
	var one, each []tree.Entry
	for key := range api.MaxSectors {
		one = append(one, tree.Entry{Key: key, P: api.Place{At: 1000, N: 128, Slot: key % 8}, Gen: 9})
		each = append(each, tree.Entry{Key: key, P: api.Place{At: api.MaxBlocks - 3 - 3*key, N: 3}, Gen: key})
	}
	for _, l := range [][]tree.Entry{one, each} {
		r := b.put(l)
		want, e := b.plainUses(r)
		if e != api.OK {
			t.Fatal(e)
		}
		b.uses(r, want)
	}
}

// Where the extents are is not what Uses asks: neither the crowns' blocks nor
// those behind the platter's end are an error.
func TestP17_1UsesOfAnyRun(t *testing.T) {
	b := made(t, 64, 1)
	for _, p := range []api.Place{{At: 0, N: 1}, {At: 1, N: 1}, {At: 63, N: 2}, {At: 64, N: 128}, {At: api.MaxBlocks - 1, N: 1}, {At: api.MaxBlocks - 128, N: 128}} {
		for _, gen := range []int{0, 1<<28 - 1} {
			r := b.put(entries(p, gen, 7))
			want := []Use{
				{Run: api.Run{At: p.At, N: p.N}, Gen: gen, Sectors: []int{7}},
				{Run: api.Run{At: r.Kid.At, N: r.Kid.N}, Gen: 1, Node: true},
			}
			if p.At > r.Kid.At {
				slices.Reverse(want)
			}
			b.uses(r, want)
		}
	}
}

func TestP17_1UsesAtRandom(t *testing.T) {
	rnd := rand.New(rand.NewSource(1))
	seen := map[api.Errno]int{}
	for range 1500 {
		b := made(t, 3000, 1)
		f := forest{bench: b, Rand: rnd}
		for range 1 + rnd.Intn(10) {
			x := tree.Entry{P: api.Place{At: 3000 + rnd.Intn(200)*8, N: 8, Slot: rnd.Intn(8)}, Gen: rnd.Intn(4)}
			f.pool = append(f.pool, x)
		}
		switch rnd.Intn(8) {
		case 0:
			x := f.pool[0]
			x.P.At += 8
			f.pool = append(f.pool, x)
		case 1:
			x := f.pool[0]
			x.P.At += 7
			f.pool = append(f.pool, x)
		case 2:
			x := f.pool[0]
			x.P.N--
			f.pool = append(f.pool, x)
		case 3:
			x := f.pool[0]
			x.Gen++
			f.pool = append(f.pool, x)
		case 4:
			f.pool = append(f.pool, tree.Entry{P: api.Place{At: 2 + rnd.Intn(60), N: 1}})
		}
		r := f.tree(rnd.Intn(5))
		want, e := b.plainUses(r)
		seen[e]++
		if e == api.OK {
			b.uses(r, want)
		} else {
			b.noUses("a random tree", r, e)
		}
	}
	if seen[api.OK] < 500 || seen[api.ErrForm] < 200 {
		t.Errorf("the trees gave %v", seen)
	}
}

func TestP17_1UsesNamedTwice(t *testing.T) {
	b := made(t, 500, 6)
	p := b.extent(2, 5)
	first := entries(p, 5, 10, 20)
	other := func(at, n, gen int) tree.Entry {
		return tree.Entry{Key: 15, P: api.Place{At: at, N: n, Slot: 1}, Gen: gen}
	}
	if p.N != 5 {
		t.Fatalf("the extent has %d blocks", p.N)
	}
	for _, c := range []struct {
		what string
		x    tree.Entry
		want api.Errno
	}{
		{"the same extent", other(p.At, 5, 5), api.OK},
		{"an earlier generation", other(p.At, 5, 4), api.ErrForm},
		{"a later generation", other(p.At, 5, 6), api.ErrForm},
		{"generation 0", other(p.At, 5, 0), api.ErrForm},
		{"the greatest generation", other(p.At, 5, 1<<28-1), api.ErrForm},
		{"one block more", other(p.At, 6, 5), api.ErrForm},
		{"one block less", other(p.At, 4, 5), api.ErrForm},
		{"its first block", other(p.At, 1, 5), api.ErrForm},
		{"its second block", other(p.At+1, 1, 5), api.ErrForm},
		{"its last block", other(p.At+4, 1, 5), api.ErrForm},
		{"its last block and more", other(p.At+4, 9, 5), api.ErrForm},
		{"the block before and the first", other(p.At-1, 2, 5), api.ErrForm},
		{"more on both sides", other(p.At-1, 7, 5), api.ErrForm},
		{"the block before", other(p.At-1, 1, 5), api.OK},
		{"the blocks from 0 on", other(0, p.At, 5), api.OK},
		{"the blocks behind", other(400, 100, 5), api.OK},
	} {
		r := b.put(first, []tree.Entry{c.x})
		if want, e := b.plainUses(r); e != c.want {
			t.Fatalf("%s: %v", c.what, e)
		} else if e == api.OK {
			b.uses(r, want)
		} else {
			b.noUses(c.what, r, e)
		}
		// Whatever the order of the sectors.
		c.x.Key = 5
		if _, e := Uses(b.s, b.put(first, []tree.Entry{c.x})); e != c.want {
			t.Errorf("%s: %v, want %v", c.what, e, c.want)
		}
	}
	// The run behind an extent is another one's.
	q := b.extent(3, 5)
	r := b.put(first, entries(q, 5, 1), entries(api.Place{At: q.At + q.N, N: 1}, 1, 2))
	want, e := b.plainUses(r)
	if e != api.OK {
		t.Fatal(e)
	}
	b.uses(r, want)
}

// Extents that overlap need not be neighbours in the list of those that are
// sorted: a long one can have several others in it.
func TestP17_1UsesInALongOne(t *testing.T) {
	b := made(t, 64, 1)
	at := func(key, at, n int) tree.Entry {
		return tree.Entry{Key: key, P: api.Place{At: at, N: n}, Gen: 1}
	}
	for _, c := range []struct {
		l    []tree.Entry
		want api.Errno
	}{
		{[]tree.Entry{at(1, 100, 20), at(2, 105, 5), at(3, 112, 3)}, api.ErrForm},
		{[]tree.Entry{at(1, 100, 20), at(2, 120, 5), at(3, 124, 1)}, api.ErrForm},
		{[]tree.Entry{at(3, 100, 20), at(2, 120, 5), at(1, 119, 1)}, api.ErrForm},
		{[]tree.Entry{at(3, 100, 20), at(2, 120, 5), at(1, 125, 1)}, api.OK},
		{[]tree.Entry{at(1, 100, 20), at(2, 100, 5), at(3, 105, 15)}, api.ErrForm},
	} {
		if _, e := Uses(b.s, b.put(c.l)); e != c.want {
			t.Errorf("%v: Uses: %v, want %v", c.l, e, c.want)
		}
	}
}

func TestP17_1UsesOfANodesBlocks(t *testing.T) {
	b := made(t, 500, 6)
	var low, high []tree.Entry
	for key := range 8 {
		low = append(low, entries(api.Place{At: 300, N: 5}, 1<<27, 100+key)...)
		high = append(high, entries(api.Place{At: 310, N: 5}, 1<<27, 300+key)...)
	}
	start := b.extent(1, 1)
	k := b.leaf(low...)
	if k.N < 2 || start.At+start.N != k.At {
		t.Fatalf("the leaf is at %v", k)
	}
	for _, c := range []struct {
		at, n, gen int
		want       api.Errno
	}{
		{k.At, k.N, 6, api.ErrForm},
		{k.At, k.N, 5, api.ErrForm},
		{k.At, 1, 6, api.ErrForm},
		{k.At + k.N - 1, 1, 6, api.ErrForm},
		{k.At + k.N - 1, 2, 6, api.ErrForm},
		{k.At - 1, 2, 6, api.ErrForm},
		{k.At - 1, k.N + 2, 6, api.ErrForm},
		{start.At, start.N + 1, 1, api.ErrForm},
		{start.At, start.N, 1, api.OK},
		{k.At - 1, 1, 6, api.OK},
		{499, 1, 6, api.OK},
	} {
		high[3] = tree.Entry{Key: 303, P: api.Place{At: c.at, N: c.n}, Gen: c.gen}
		top := b.inner(1, []int{100, 300}, k, b.leaf(high...))
		r := tree.Root{Kid: top, Height: 1}
		if _, e := Uses(b.s, r); e != c.want {
			t.Errorf("%v: Uses: %v, want %v", c, e, c.want)
		}
		// An extent in the blocks of the root itself.
		if c.want == api.OK {
			next := b.r.List()[0].At + 1
			x := b.leaf(entries(api.Place{At: next, N: 1}, 1, 400)...)
			top := b.inner(1, []int{100, 400}, k, x)
			if top.At != next {
				t.Fatalf("the root is at %v", top)
			}
			b.noUses("the root's block", tree.Root{Kid: top, Height: 1}, api.ErrForm)
		}
	}
}

// usedBy is the blocks of a node.
func usedBy(k node.Kid) []int {
	var l []int
	for i := range k.N {
		l = append(l, k.At+i)
	}
	return l
}

// A tree in which two parents have one child is valid as far as package tree can
// see it, as long as the child has no keys.
func TestP17_1UsesOfOneNodeTwice(t *testing.T) {
	b := made(t, 500, 6)
	empty := b.leaf()
	r := tree.Root{Kid: b.inner(1, []int{5, 9}, empty, empty), Height: 1}
	if l, e := tree.Nodes(b.s, r); e != api.OK || len(l) != 3 {
		t.Fatalf("Nodes = %v, %v", l, e)
	}
	b.noUses("an empty leaf twice", r, api.ErrForm)
	b.uses(tree.Root{Kid: b.inner(1, []int{5, 9}, empty, b.leaf()), Height: 1}, []Use{
		{Run: api.Run{At: empty.At, N: 1}, Gen: 6, Node: true},
		{Run: api.Run{At: empty.At + 2, N: 1}, Gen: 6, Node: true},
		{Run: api.Run{At: empty.At + 3, N: 1}, Gen: 6, Node: true},
	})
}

// A node's frame can lie within an extent, whose sectors then have its bytes.
func TestP17_1UsesOfANodeInAnExtent(t *testing.T) {
	b := made(t, 500, 6)
	empty, _ := leaf.Make(0x4e, 6, []byte{0, 0})
	var l [][]byte
	for range 3 {
		s := make([]byte, api.Sector)
		rand.New(rand.NewSource(int64(len(l)))).Read(s)
		l = append(l, s)
	}
	// The frame begins at a block behind the header's 16 bytes and the items' 4.
	copy(l[1][192-20-128:], empty)
	x := b.write(extent.Build(l, 5, 0))
	hidden := node.Kid{At: x.At + 3, N: 1, Gen: 6}
	if n := b.load(hidden); len(n.Keys) > 0 {
		t.Fatalf("the hidden node is %+v", n)
	}
	low := b.leaf(entries(api.Place{At: x.At, N: x.N}, 5, 1, 2, 3)...)
	r := tree.Root{Kid: b.inner(1, []int{1, 50}, low, hidden), Height: 1}
	if l, e := tree.All(b.s, r); e != api.OK || len(l) != 3 {
		t.Fatalf("All = %v, %v", l, e)
	}
	b.noUses("a node in an extent", r, api.ErrForm)
}

func TestP17_1UsesErrorsOfTheTree(t *testing.T) {
	b := made(t, 500, 6)
	p := b.extent(3, 6)
	var keys []int
	for i := range 100 {
		keys = append(keys, 5*i)
	}
	r := b.put(entries(p, 6, keys...))
	want, _ := b.plainUses(r)
	if r.Height < 2 {
		t.Fatalf("the height is only %d", r.Height)
	}
	b.uses(r, want)
	if l, e := Uses(nil, r); e != api.ErrArg || l != nil {
		t.Errorf("without a slab: %v, %v", l, e)
	}
	for _, d := range append(extremes[:], r.Height-1, r.Height+1, -1, api.MaxHeight-1, api.MaxHeight, api.MaxHeight+1) {
		b.noUses("another height", tree.Root{Kid: r.Kid, Height: d}, api.ErrForm)
	}
	for _, x := range extremes {
		b.noUses("another block", tree.Root{Kid: node.Kid{At: x, N: r.Kid.N, Gen: 6}, Height: r.Height}, api.ErrArg)
		b.noUses("another number of blocks", tree.Root{Kid: node.Kid{At: r.Kid.At, N: x, Gen: 6}, Height: r.Height}, api.ErrArg)
		b.noUses("another generation", tree.Root{Kid: node.Kid{At: r.Kid.At, N: r.Kid.N, Gen: x}, Height: r.Height}, api.ErrSum)
	}
	b.noUses("an extent", tree.Root{Kid: node.Kid{At: p.At, N: p.N, Gen: 6}}, api.ErrForm)
	b.noUses("no root", tree.Root{}, api.ErrArg)
	for _, x := range b.spots(r) {
		for _, block := range usedBy(x.kid) {
			b.rot(block)
			b.noUses("a rotten node", r, api.ErrSum)
			b.rot(block)
		}
	}
	for _, block := range usedBy(node.Kid{At: p.At, N: p.N}) {
		b.rot(block)
	}
	b.uses(r, want)
}

// Each read of the platter fails once.
func TestP17_1UsesErrorsOfThePlatter(t *testing.T) {
	b := made(t, 500, 6)
	r := b.put(entries(b.extent(3, 6), 6, 1, 2, 3, 4, 5, 60, 61, 62, 63, 64, 65, 66, 400))
	want, _ := b.plainUses(r)
	before := b.p.Count(platter.Read)
	b.uses(r, want)
	reads := b.p.Count(platter.Read) - before
	if blocks := len(want) - 1; reads < blocks || blocks < 3 {
		t.Fatalf("%d reads for %d nodes", reads, blocks)
	}
	for i := range reads {
		b.p.Fail([]platter.Fault{{Op: platter.Read, At: i + 1}})
		b.noUses("a failing read", r, api.ErrIO)
	}
	b.uses(r, want)
}

// An error of the tree comes before runs that overlap, wherever it is.
func TestP17_1UsesOrderOfErrors(t *testing.T) {
	b := made(t, 500, 6)
	low := b.leaf(entries(api.Place{At: 300, N: 5}, 5, 1, 2)...)
	high := b.leaf(append(entries(api.Place{At: 304, N: 5}, 5, 100), entries(api.Place{At: 300, N: 5}, 4, 101)...)...)
	lost := b.leaf(entries(api.Place{At: 300, N: 5}, 5, 401)...)
	r := tree.Root{Kid: b.inner(1, []int{1, 100, 400}, low, high, lost), Height: 1}
	b.noUses("runs that overlap", r, api.ErrForm)
	b.rot(lost.At)
	b.noUses("a rotten node as well", r, api.ErrSum)
	b.rot(lost.At)
	b.p.Fail([]platter.Fault{{Op: platter.Read, At: 1}})
	b.noUses("a failing read as well", r, api.ErrIO)
	b.noUses("runs that overlap", r, api.ErrForm)
}

func TestP17_1UsesChangesNothing(t *testing.T) {
	b := made(t, 500, 6)
	p := b.extent(3, 6)
	r := b.put(entries(p, 6, 1, 2, 3, 4, 5, 60, 61, 62, 63, 64, 65, 66, 400))
	x := entries(p, 5, 2)
	odd, _ := tree.Put(b.s, r, x)
	b.same("Uses", func() {
		Uses(b.s, r)
		Uses(b.s, odd)
		Uses(b.s, tree.Root{})
	})
	b.p.Fail([]platter.Fault{{Op: platter.Read, At: 2}})
	b.same("a Uses that fails", func() { b.noUses("a failing read", r, api.ErrIO) })
}

func TestP17_1UsesIsNewMemory(t *testing.T) {
	b := made(t, 500, 6)
	p, q := b.extent(3, 6), b.extent(2, 6)
	r := b.put(entries(p, 6, 1, 2, 3), entries(q, 6, 4, 5, 6, 7))
	want, _ := b.plainUses(r)
	l, _ := Uses(b.s, r)
	again, _ := Uses(b.s, r)
	// What is appended to one list must not be seen in another.
	for i, u := range l {
		l[i].Sectors = append(u.Sectors, 99, 98, 97)
	}
	for i := range l {
		l[i].Sectors = l[i].Sectors[:len(want[i].Sectors)]
	}
	if !sameUses(l, want) {
		t.Errorf("two lists of one result share memory: %+v", l)
	}
	for _, u := range l {
		clear(u.Sectors[:cap(u.Sectors)])
	}
	clear(l[:cap(l)])
	if !sameUses(again, want) {
		t.Errorf("two results share memory: %+v", again)
	}
	b.uses(r, want)
	if !reflect.DeepEqual(again[len(again)-1].Sectors, []int(nil)) {
		t.Errorf("a node has the sectors %v", again[len(again)-1].Sectors)
	}
}
