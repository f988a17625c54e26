package slab

import (
	"bytes"
	"maps"
	"math"
	"math/rand"
	"reflect"
	"slices"
	"testing"

	"concertina/api"
	"concertina/leaf"
	"concertina/node"
	"concertina/platter"
	"concertina/tree"
)

// A slab is where a tree keeps its nodes.
var _ tree.Store = (*Slab)(nil)

// save wants that Save returns this kid, and that its frame is as the chapter
// tells it.
func (b bench) save(n node.Node, want node.Kid) {
	b.t.Helper()
	if k, e := b.s.Save(n); k != want || e != api.OK {
		b.t.Fatalf("Save(%v) = %v, %v, want %v, OK", n, k, e, want)
	}
	data, e := node.Encode(n)
	if e != api.OK {
		b.t.Fatal(e)
	}
	frame, e := leaf.Make(0x4e, want.Gen, data)
	if e != api.OK || len(frame) != want.N*api.Block {
		b.t.Fatalf("leaf.Make: %d bytes, %v, want %d blocks", len(frame), e, want.N)
	}
	b.read(api.Run{At: want.At, N: want.N}, frame)
	if b.sh.Uses(want.At) != 1 || !slices.Contains(b.sh.List(), api.Run{At: want.At, N: want.N}) {
		b.t.Errorf("Save(%v): in use are %v", n, b.sh.List())
	}
}

func (b bench) notSaved(n node.Node, want api.Errno) {
	b.t.Helper()
	if k, e := b.s.Save(n); k != (node.Kid{}) || e != want {
		b.t.Errorf("Save(%v) = %v, %v, want none, %v", n, k, e, want)
	}
}

// load wants that Load returns this node.
func (b bench) load(k node.Kid, want node.Node) {
	b.t.Helper()
	n, e := b.s.Load(k)
	if e != api.OK || !equal(n, want) {
		b.t.Errorf("Load(%v) = %v, %v, want %v, OK", k, n, e, want)
	}
}

func (b bench) notLoaded(k node.Kid, want api.Errno) {
	b.t.Helper()
	if n, e := b.s.Load(k); e != want || !reflect.DeepEqual(n, node.Node{}) {
		b.t.Errorf("Load(%v) = %v, %v, want none, %v", k, n, e, want)
	}
}

// put writes bytes to a run of their own.
func (b bench) put(data []byte) api.Run {
	b.t.Helper()
	x, e := b.s.Write(data)
	if e != api.OK {
		b.t.Fatalf("Write(%d bytes): %v", len(data), e)
	}
	return x
}

// frame writes a frame with any data.
func (b bench) frame(kind byte, gen int, data []byte) node.Kid {
	b.t.Helper()
	f, e := leaf.Make(kind, gen, data)
	if e != api.OK {
		b.t.Fatal(e)
	}
	x := b.put(f)
	return node.Kid{At: x.At, N: x.N, Gen: gen}
}

func equal(n, m node.Node) bool {
	return n.Height == m.Height && slices.Equal(n.Keys, m.Keys) && slices.Equal(n.Places, m.Places) && slices.Equal(n.Gens, m.Gens) && slices.Equal(n.Kids, m.Kids)
}

// leafOf is a leaf with n keys, whose numbers are as great as can be if great.
func leafOf(n int, great bool) node.Node {
	var out node.Node
	for i := range n {
		key, p, gen := i, api.Place{At: 2 + i, N: 1, Slot: i % api.Slots}, i
		if great {
			key, p, gen = api.MaxSectors-n+i, api.Place{At: api.MaxBlocks - 128, N: 128, Slot: api.Slots - 1}, 1<<28-1-i
		}
		out.Keys = append(out.Keys, key)
		out.Places = append(out.Places, p)
		out.Gens = append(out.Gens, gen)
	}
	return out
}

// innerOf is an inner node with n keys.
func innerOf(height, n int) node.Node {
	out := node.Node{Height: height}
	for i := range n {
		out.Keys = append(out.Keys, 60*i)
		out.Kids = append(out.Kids, node.Kid{At: 8000 + i, N: 1 + i, Gen: 1<<28 - 1 - i})
	}
	return out
}

func TestP15_2SaveAndLoad(t *testing.T) {
	b := made(t, api.MaxBlocks, 3)
	saved := map[node.Kid]node.Node{}
	at := 2
	save := func(n node.Node) {
		data, _ := node.Encode(n)
		k := node.Kid{At: at, N: leaf.Blocks(len(data)), Gen: 3}
		b.save(n, k)
		saved[k] = n
		at += k.N
	}
	save(node.Node{})
	for n := 1; n <= api.Fan; n++ {
		save(leafOf(n, false))
		save(leafOf(n, true))
		for height := 1; height < api.MaxHeight; height++ {
			save(innerOf(height, n))
		}
	}
	for range 2 {
		for k, n := range saved {
			b.load(k, n)
		}
		b.p.Sync()
		b.p.Crash(nil)
		// What is loaded hangs on the kid alone, not on what the slab has saved.
		b.s = New(b.p, b.sh, b.r, 77)
	}
}

func TestP15_2SaveBytes(t *testing.T) {
	b := made(t, 64, 0x01020304)
	n := node.Node{Keys: []int{4}, Places: []api.Place{{At: 9, N: 2, Slot: 3}}, Gens: []int{200}}
	b.save(n, node.Kid{At: 2, N: 1, Gen: 0x01020304})
	got, e := b.s.Read(api.Run{At: 2, N: 1})
	head := []byte{0xc5, 0x7e, 0x4e, 0, 4, 3, 2, 1, 8, 0, 0, 0}
	data := []byte{0, 1, 4, 9, 2, 3, 0xc8, 1}
	if e != api.OK || !bytes.HasPrefix(got, head) || !bytes.Equal(got[16:24], data) {
		t.Errorf("Save wrote %x, %v, want %x, a sum, %x", got, e, head, data)
	}
}

func TestP15_2SaveTakesTheBlocksItNeeds(t *testing.T) {
	b := made(t, 64, 1)
	b.save(leafOf(api.Fan, true), node.Kid{At: 2, N: 2, Gen: 1})
	b.save(node.Node{}, node.Kid{At: 4, N: 1, Gen: 1})
	b.sh.Less(2)
	b.sh.Settle()
	b.save(node.Node{}, node.Kid{At: 2, N: 1, Gen: 1})
	b.save(leafOf(api.Fan, true), node.Kid{At: 5, N: 2, Gen: 1})
	b.free(api.Run{At: 3, N: 1}, api.Run{At: 7, N: 57})
}

func TestP15_2SaveWithTheCurrentGeneration(t *testing.T) {
	for _, gen := range []int{0, 1, 127, 128, 1<<28 - 1, 1 << 28, 1<<31 - 1} {
		b := made(t, 64, gen)
		b.save(leafOf(2, false), node.Kid{At: 2, N: 1, Gen: gen})
		b.s.Gen(5)
		b.save(leafOf(3, false), node.Kid{At: 3, N: 1, Gen: 5})
		b.s.Gen(8)
		b.s.Gen(gen)
		b.save(leafOf(4, false), node.Kid{At: 4, N: 1, Gen: gen})
		b.save(leafOf(5, false), node.Kid{At: 5, N: 1, Gen: gen})
		b.s.Gen(6)
		// What was saved before keeps its generation.
		b.load(node.Kid{At: 2, N: 1, Gen: gen}, leafOf(2, false))
		b.load(node.Kid{At: 3, N: 1, Gen: 5}, leafOf(3, false))
		b.load(node.Kid{At: 4, N: 1, Gen: gen}, leafOf(4, false))
		b.load(node.Kid{At: 5, N: 1, Gen: gen}, leafOf(5, false))
	}
}

func TestP15_2SaveWithNoGenerationOfAFrame(t *testing.T) {
	for _, gen := range append([]int{-1, -2, 1 << 31, 1<<31 + 1, 1 << 40}, math.MinInt, math.MaxInt) {
		b := made(t, 64, gen)
		b.same("Save", func() { b.notSaved(node.Node{}, api.ErrArg) })
		b.s.Gen(4)
		b.save(node.Node{}, node.Kid{At: 2, N: 1, Gen: 4})
		b.s.Gen(gen)
		b.same("Save", func() { b.notSaved(leafOf(8, true), api.ErrArg) })
		// The generation is that of nodes: other frames can be written.
		b.write(counted(1, 1), api.Run{At: 3, N: 1})
		b.load(node.Kid{At: 2, N: 1, Gen: 4}, node.Node{})
		b.notLoaded(node.Kid{At: 2, N: 1, Gen: gen}, api.ErrSum)
	}
}

// invalid is nodes that node.Encode rejects.
func invalid() []node.Node {
	ascending, long, slot := leafOf(3, false), leafOf(8, false), leafOf(3, true)
	ascending.Keys[2] = ascending.Keys[1]
	long.Keys = append(long.Keys, 9)
	long.Places = append(long.Places, long.Places[7])
	long.Gens = append(long.Gens, 9)
	slot.Places[1].Slot = api.Slots
	low, many := leafOf(3, false), innerOf(1, 3)
	low.Keys[0] = -1
	many.Kids = append(many.Kids, many.Kids[2])
	return []node.Node{ascending, long, slot, low, many, innerOf(api.MaxHeight, 3), innerOf(-1, 3), innerOf(1, 0), {Height: math.MaxInt}, {Keys: []int{1}}}
}

func TestP15_2SaveErrorsInOrder(t *testing.T) {
	b := made(t, 64, 1)
	for _, n := range invalid() {
		b.same("Save", func() { b.notSaved(n, api.ErrArg) })
	}
	b.p.Fail([]platter.Fault{{Op: platter.Write, At: 2}})
	b.notSaved(leafOf(8, true), api.ErrIO)
	b.free(api.Run{At: 4, N: 60})
	b.sh.Back()
	b.free(api.Run{At: 2, N: 62})
	b.write(counted(61, 1), api.Run{At: 2, N: 61})
	b.p.Fail([]platter.Fault{{Op: platter.Write, At: 1}})
	b.same("Save", func() {
		b.notSaved(leafOf(8, true), api.ErrFull)
		for _, n := range invalid() {
			b.notSaved(n, api.ErrArg)
		}
		b.s.Gen(-1)
		b.notSaved(leafOf(8, true), api.ErrArg)
		b.s.Gen(1)
	})
	b.notSaved(leafOf(1, false), api.ErrIO)
	b.free()
	b.same("Save", func() {
		b.notSaved(leafOf(1, false), api.ErrFull)
		b.notSaved(innerOf(1, 0), api.ErrArg)
		b.s.Gen(1 << 31)
		b.notSaved(leafOf(1, false), api.ErrArg)
	})
}

func TestP15_2SaveSharesNothing(t *testing.T) {
	b := made(t, 64, 1)
	n := leafOf(8, false)
	n.Keys, n.Places, n.Gens = n.Keys[:3], n.Places[:3], n.Gens[:3]
	b.save(n, node.Kid{At: 2, N: 1, Gen: 1})
	n.Keys, n.Places, n.Gens = n.Keys[:8], n.Places[:8], n.Gens[:8]
	if !equal(n, leafOf(8, false)) {
		t.Error("Save changed its argument or what lies behind it")
	}
	clear(n.Keys)
	clear(n.Places)
	k := node.Kid{At: 2, N: 1, Gen: 1}
	b.load(k, leafOf(3, false))
	x, _ := b.s.Load(k)
	clear(x.Keys[:cap(x.Keys)])
	clear(x.Places[:cap(x.Places)])
	clear(x.Gens[:cap(x.Gens)])
	b.load(k, leafOf(3, false))
}

func TestP15_2LoadErrorsOfRead(t *testing.T) {
	b := made(t, 64, 3)
	b.save(leafOf(8, true), node.Kid{At: 2, N: 2, Gen: 3})
	b.p.Fail([]platter.Fault{{Op: platter.Read, At: 1}})
	b.same("Load", func() {
		for _, k := range []node.Kid{{At: 2, N: 0, Gen: 3}, {At: 2, N: -1, Gen: 3}, {At: 64, N: 1, Gen: 3}, {At: 63, N: 2, Gen: 3}, {At: -1, N: 2, Gen: 3}, {At: 2, N: 63, Gen: 3}} {
			b.notLoaded(k, api.ErrArg)
		}
		for _, x := range extremes {
			b.notLoaded(node.Kid{At: 2, N: x, Gen: 3}, api.ErrArg)
			b.notLoaded(node.Kid{At: x, N: 2, Gen: 3}, api.ErrArg)
			b.notLoaded(node.Kid{At: x, N: x, Gen: x}, api.ErrArg)
		}
	})
	for bad := 1; bad <= 2; bad++ {
		// Read's error comes first, whatever is in the blocks.
		for _, k := range []node.Kid{{At: 2, N: 2, Gen: 3}, {At: 2, N: 2, Gen: 4}, {At: 2, N: 3, Gen: 3}, {At: 10, N: 2, Gen: 3}} {
			b.p.Fail([]platter.Fault{{Op: platter.Read, At: bad}})
			b.notLoaded(k, api.ErrIO)
		}
	}
	b.p.Fail([]platter.Fault{{Op: platter.Read, At: 3}})
	b.load(node.Kid{At: 2, N: 2, Gen: 3}, leafOf(8, true))
}

func TestP15_2LoadErrorsOfTheFrame(t *testing.T) {
	b := made(t, 64, 3)
	b.save(leafOf(8, true), node.Kid{At: 2, N: 2, Gen: 3})
	for _, gen := range []int{3, 4, -1, math.MaxInt} {
		// These come before a wrong generation.
		b.notLoaded(node.Kid{At: 2, N: 1, Gen: gen}, api.ErrShort)
		b.notLoaded(node.Kid{At: 2, N: 3, Gen: gen}, api.ErrLong)
		b.notLoaded(node.Kid{At: 2, N: 62, Gen: gen}, api.ErrLong)
		b.notLoaded(node.Kid{At: 3, N: 1, Gen: gen}, api.ErrForm)
		b.notLoaded(node.Kid{At: 10, N: 1, Gen: gen}, api.ErrForm)
	}
	empty, _ := node.Encode(node.Node{})
	for kind := range 256 {
		if kind == 0x4e {
			continue
		}
		k := b.frame(byte(kind), 3, empty)
		b.notLoaded(k, api.ErrForm)
		k.Gen = 4
		b.notLoaded(k, api.ErrForm)
		b.sh.Less(k.At)
		b.sh.Settle()
	}
	// Both the kind and the data are wrong.
	b.notLoaded(b.frame(0xe7, 3, []byte{0, 1}), api.ErrForm)
}

func TestP15_2LoadOfAnotherGeneration(t *testing.T) {
	for _, gen := range []int{0, 1, 3, 1<<28 - 1, 1<<31 - 1} {
		b := made(t, 64, gen)
		b.save(leafOf(2, false), node.Kid{At: 2, N: 1, Gen: gen})
		b.load(node.Kid{At: 2, N: 1, Gen: gen}, leafOf(2, false))
		for _, other := range append(extremes[:], gen+1, gen-1, -gen-1, gen+1<<31, gen+1<<32, gen^256, gen^1<<24) {
			b.notLoaded(node.Kid{At: 2, N: 1, Gen: other}, api.ErrSum)
		}
	}
}

func TestP15_2LoadOfBlocksThatWereUsedAnew(t *testing.T) {
	b := made(t, 64, 3)
	old := node.Kid{At: 2, N: 1, Gen: 3}
	b.save(leafOf(2, false), old)
	b.sh.Less(2)
	b.sh.Settle()
	b.s.Gen(4)
	b.save(leafOf(2, false), node.Kid{At: 2, N: 1, Gen: 4})
	b.notLoaded(old, api.ErrSum)
}

func TestP15_2LoadErrorsOfTheNode(t *testing.T) {
	for _, c := range []struct {
		data []byte
		want api.Errno
	}{
		{nil, api.ErrShort},
		{[]byte{0}, api.ErrShort},
		{[]byte{0, 1}, api.ErrShort},
		{[]byte{0, 0, 0}, api.ErrLong},
		{[]byte{0, api.Fan + 1}, api.ErrForm},
		{[]byte{api.MaxHeight, 0}, api.ErrForm},
		{[]byte{1, 0}, api.ErrForm},
		{[]byte{0x80, 0, 0}, api.ErrForm},
		{[]byte{0, 1, 4, 9, 0, 3, 1}, api.ErrForm},
		{[]byte{0, 2, 4, 9, 1, 3, 1, 4, 9, 1, 4, 1}, api.ErrForm},
		{make([]byte, api.MaxData), api.ErrLong},
	} {
		b := made(t, 100, 1)
		k := b.frame(0x4e, 9, c.data)
		b.notLoaded(k, c.want)
		// A wrong generation comes before what is wrong with the node.
		for _, gen := range []int{8, 10, 0, -1, 1} {
			b.notLoaded(node.Kid{At: k.At, N: k.N, Gen: gen}, api.ErrSum)
		}
		if _, e := node.Decode(c.data); e != c.want {
			t.Errorf("node.Decode(%x): %v, want %v", c.data, e, c.want)
		}
	}
	b := made(t, 64, 1)
	b.load(b.frame(0x4e, 9, []byte{0, 1, 4, 9, 1, 3, 7}), node.Node{Keys: []int{4}, Places: []api.Place{{At: 9, N: 1, Slot: 3}}, Gens: []int{7}})
}

func TestP15_2LoadOfRottenBlocks(t *testing.T) {
	b := made(t, 64, 3)
	k := node.Kid{At: 2, N: 2, Gen: 3}
	b.save(leafOf(8, true), k)
	b.p.Sync()
	for bit := range 2 * 8 * api.Block {
		for _, mask := range []uint32{1, 0xdeadbeef, math.MaxUint32} {
			n, at := 2+bit/(8*api.Block), bit%(8*api.Block)
			b.p.Rot(n, at, mask)
			if got, e := b.s.Load(k); e == api.OK || !reflect.DeepEqual(got, node.Node{}) {
				t.Errorf("bits %#x from bit %d on: Load = %v, %v", mask, bit, got, e)
			}
			b.p.Rot(n, at, mask)
		}
	}
	b.load(k, leafOf(8, true))
	b.p.Rot(2, 200, 1)
	b.notLoaded(k, api.ErrSum)
}

// entriesOf is the entries of a plain map, in ascending order.
func entriesOf(m map[int]tree.Entry) []tree.Entry {
	var l []tree.Entry
	for _, key := range slices.Sorted(maps.Keys(m)) {
		l = append(l, m[key])
	}
	return l
}

// mustHave wants that a tree has these entries.
func (b bench) mustHave(r tree.Root, m map[int]tree.Entry) {
	b.t.Helper()
	if l, e := tree.All(b.s, r); e != api.OK || !slices.Equal(l, entriesOf(m)) {
		b.t.Fatalf("tree.All = %v, %v, want %v, OK", l, e, entriesOf(m))
	}
}

func TestP15_2TreeOnASlab(t *testing.T) {
	b := made(t, api.MaxBlocks, 1)
	rnd := rand.New(rand.NewSource(15))
	r, e := tree.Empty(b.s)
	if e != api.OK {
		t.Fatal(e)
	}
	m := map[int]tree.Entry{}
	roots, versions := []tree.Root{r}, []map[int]tree.Entry{maps.Clone(m)}
	for gen := 2; gen < 40; gen++ {
		b.s.Gen(gen)
		var l []tree.Entry
		for range 1 + rnd.Intn(20) {
			x := tree.Entry{Key: rnd.Intn(api.MaxSectors), P: api.Place{At: rnd.Intn(8000), N: 1 + rnd.Intn(17), Slot: rnd.Intn(8)}, Gen: gen}
			l, m[x.Key] = append(l, x), x
		}
		if r, e = tree.Put(b.s, r, l); e != api.OK || r.Kid.Gen != gen {
			t.Fatalf("tree.Put = %v, %v", r, e)
		}
		if gen%5 == 0 {
			keys := slices.Sorted(maps.Keys(m))[:len(m)/2]
			maps.DeleteFunc(m, func(key int, _ tree.Entry) bool { return slices.Contains(keys, key) })
			if r, e = tree.Cut(b.s, r, keys); e != api.OK {
				t.Fatalf("tree.Cut = %v, %v", r, e)
			}
		}
		roots, versions = append(roots, r), append(versions, maps.Clone(m))
		b.p.Sync()
	}
	for i, r := range roots {
		b.mustHave(r, versions[i])
	}
	// What goes wrong below reaches the caller of the tree.
	b.p.Fail([]platter.Fault{{Op: platter.Read, At: 3}})
	if l, e := tree.All(b.s, r); e != api.ErrIO || len(l) != 0 {
		t.Errorf("tree.All = %v, %v, want none, ErrIO", l, e)
	}
	b.put(counted(b.r.Greatest(), 1))
	if x, e := tree.Put(b.s, r, []tree.Entry{{Key: 3, P: api.Place{At: 4, N: 1}, Gen: 5}}); e != api.ErrFull {
		t.Errorf("tree.Put = %v, %v, want none, ErrFull", x, e)
	}
	b.mustHave(r, m)
}
