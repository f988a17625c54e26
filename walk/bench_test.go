package walk

import (
	"math"
	"math/rand"
	"reflect"
	"slices"
	"testing"

	"concertina/api"
	"concertina/extent"
	"concertina/leaf"
	"concertina/node"
	"concertina/platter"
	"concertina/runs"
	"concertina/shares"
	"concertina/slab"
	"concertina/tree"
)

// bench is a slab, and what it was made of.
type bench struct {
	t  *testing.T
	s  *slab.Slab
	p  *platter.Platter
	sh *shares.Shares
	r  *runs.Runs
}

// made is a slab on a platter of that many blocks, of which the first two are
// taken.
func made(t *testing.T, blocks, gen int) bench {
	t.Helper()
	p, e := platter.New(blocks)
	if e != api.OK {
		t.Fatalf("platter.New(%d): %v", blocks, e)
	}
	r := runs.New(blocks)
	r.Mark(0, 2)
	sh := shares.New(r)
	return bench{t: t, s: slab.New(p, sh, r, gen), p: p, sh: sh, r: r}
}

// state is all that can be seen of a bench without changing it, but for how
// often the platter was read.
type state struct {
	free, used, late []api.Run
	blocks           []byte
	cached           int
	writes, syncs    int
}

func (b bench) state() state {
	x := state{
		free: b.r.List(), used: b.sh.List(), late: b.sh.Late(),
		cached: b.p.Cached(), writes: b.p.Count(platter.Write), syncs: b.p.Count(platter.Sync),
	}
	p := b.p.Copy()
	p.Fail(nil)
	for n := range p.Blocks() {
		block, _ := p.Read(n)
		x.blocks = append(x.blocks, block...)
	}
	return x
}

// same calls f, and wants that the bench is then as before.
func (b bench) same(what string, f func()) {
	b.t.Helper()
	before := b.state()
	f()
	if after := b.state(); !reflect.DeepEqual(before, after) {
		b.t.Errorf("%s changed something", what)
	}
}

func (b bench) write(data []byte, e api.Errno) api.Run {
	b.t.Helper()
	if e != api.OK {
		b.t.Fatal(e)
	}
	x, e := b.s.Write(data)
	if e != api.OK {
		b.t.Fatalf("Write(%d bytes): %v", len(data), e)
	}
	return x
}

// extent writes an extent of n sectors, which cannot be compressed.
func (b bench) extent(n, gen int) api.Place {
	b.t.Helper()
	rnd := rand.New(rand.NewSource(int64(gen)))
	l := make([][]byte, n)
	for i := range l {
		l[i] = make([]byte, api.Sector)
		rnd.Read(l[i])
	}
	x := b.write(extent.Build(l, gen, 1))
	return api.Place{At: x.At, N: x.N}
}

// entries is an entry for each of the keys, in the slots of p from 0 on.
func entries(p api.Place, gen int, keys ...int) []tree.Entry {
	var l []tree.Entry
	for i, key := range keys {
		p.Slot = i % api.Slots
		l = append(l, tree.Entry{Key: key, P: p, Gen: gen})
	}
	return l
}

// put is a tree with the entries of all lists.
func (b bench) put(lists ...[]tree.Entry) tree.Root {
	b.t.Helper()
	r, e := tree.Empty(b.s)
	if e != api.OK {
		b.t.Fatal(e)
	}
	if r, e = tree.Put(b.s, r, slices.Concat(lists...)); e != api.OK {
		b.t.Fatal(e)
	}
	return r
}

// save saves a node, which need not fit into a tree.
func (b bench) save(n node.Node) node.Kid {
	b.t.Helper()
	k, e := b.s.Save(n)
	if e != api.OK {
		b.t.Fatalf("Save(%+v): %v", n, e)
	}
	return k
}

// leaf saves a leaf with these entries.
func (b bench) leaf(l ...tree.Entry) node.Kid {
	b.t.Helper()
	var n node.Node
	for _, x := range l {
		n.Keys, n.Places, n.Gens = append(n.Keys, x.Key), append(n.Places, x.P), append(n.Gens, x.Gen)
	}
	return b.save(n)
}

// inner saves an inner node.
func (b bench) inner(height int, keys []int, kids ...node.Kid) node.Kid {
	b.t.Helper()
	return b.save(node.Node{Height: height, Keys: keys, Kids: kids})
}

// frame writes a node's frame with any data, and a generation of its own.
func (b bench) frame(gen int, data []byte) node.Kid {
	b.t.Helper()
	x := b.write(leaf.Make(0x4e, gen, data))
	return node.Kid{At: x.At, N: x.N, Gen: gen}
}

// load is a node that must be there.
func (b bench) load(k node.Kid) node.Node {
	b.t.Helper()
	n, e := b.s.Load(k)
	if e != api.OK {
		b.t.Fatalf("Load(%v): %v", k, e)
	}
	return n
}

// rot changes a bit of block n that no checksum misses. A second call for the
// same block changes it back.
func (b bench) rot(n int) {
	b.t.Helper()
	b.p.Sync()
	if !b.p.Rot(n, 67, 1) {
		b.t.Fatalf("there is no block %d", n)
	}
}

// spot is a node of a tree, where it is.
type spot struct {
	kid      node.Kid
	n        node.Node
	from, to int
}

// spots is the nodes of a tree, which must be there, the root's first, with the
// key ranges that the chapter gives them.
func (b bench) spots(r tree.Root) []spot {
	b.t.Helper()
	var l []spot
	var look func(k node.Kid, from, to int)
	look = func(k node.Kid, from, to int) {
		n := b.load(k)
		l = append(l, spot{kid: k, n: n, from: from, to: to})
		for i, kid := range n.Kids {
			if i == len(n.Kids)-1 {
				look(kid, n.Keys[i], to)
			} else {
				look(kid, n.Keys[i], n.Keys[i+1])
			}
		}
	}
	look(r.Kid, 0, api.MaxSectors)
	return l
}

// forest makes trees at random, which are valid but need not be such as Put and
// Cut make.
type forest struct {
	bench
	*rand.Rand
	// pool is what entries may say of an extent, with any slot.
	pool []tree.Entry
	// odd is how likely a node is none that its parent may have.
	odd float64
}

// tree saves a tree.
func (f forest) tree(height int) tree.Root {
	return tree.Root{Kid: f.node(height, 0, api.MaxSectors), Height: height}
}

// node saves a subtree with keys from from to to - 1.
func (f forest) node(height, from, to int) node.Kid {
	f.s.Gen(f.Intn(5))
	if f.Float64() < f.odd {
		return f.oddNode(height, from, to)
	}
	if height == 0 {
		var l []tree.Entry
		for _, key := range f.keys(f.Intn(api.Fan+1), from, to) {
			x := f.pool[f.Intn(len(f.pool))]
			x.Key = key
			l = append(l, x)
		}
		return f.leaf(l...)
	}
	keys := f.keys(1+f.Intn(4), from, to)
	var kids []node.Kid
	for i, key := range keys {
		kids = append(kids, f.node(height-1, key, append(slices.Clone(keys), to)[i+1]))
	}
	f.s.Gen(f.Intn(5))
	return f.inner(height, keys, kids...)
}

// keys is so many keys from from to to - 1, or as many as there are.
func (f forest) keys(count, from, to int) []int {
	l := f.Perm(to - from)
	l = l[:min(count, len(l))]
	slices.Sort(l)
	for i := range l {
		l[i] += from
	}
	return l
}

// oddNode saves a node that is not there, has another height, or has keys out of
// its bounds.
func (f forest) oddNode(height, from, to int) node.Kid {
	x := f.pool[f.Intn(len(f.pool))]
	switch f.Intn(5) {
	case 0:
		k := f.leaf()
		k.Gen++
		return k
	case 1:
		return f.frame(2, []byte{0, 9})
	case 2:
		if height > 0 {
			return f.leaf(entries(x.P, x.Gen, from)...)
		}
		return f.inner(1, []int{from}, f.leaf())
	case 3:
		if from > 0 && height == 0 {
			return f.leaf(entries(x.P, x.Gen, from-1, from)...)
		}
	case 4:
		if to < api.MaxSectors && height == 0 {
			return f.leaf(entries(x.P, x.Gen, from, to)...)
		}
	}
	return node.Kid{At: api.MaxBlocks - 1, N: 1, Gen: 1}
}

// extremes is numbers that are far beyond all blocks and sectors.
var extremes = [...]int{math.MinInt, math.MinInt + 1, -1 << 62, -1 << 32, -1 << 31, 1 << 31, 1 << 32, 1 << 62, math.MaxInt - 1, math.MaxInt}
