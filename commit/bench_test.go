package commit

import (
	"bytes"
	"maps"
	"math"
	"math/rand"
	"reflect"
	"slices"
	"testing"

	"concertina/api"
	"concertina/crown"
	"concertina/extent"
	"concertina/node"
	"concertina/platter"
	"concertina/tree"
	"concertina/walk"
)

// extremes is numbers that are far beyond all blocks, sectors and generations.
var extremes = [...]int{math.MinInt, math.MinInt + 1, -1 << 62, -1 << 32, -1 << 31, 1 << 31, 1 << 32, 1 << 62, math.MaxInt - 1, math.MaxInt}

// bench is an engine and the platter below it.
type bench struct {
	t *testing.T
	p *platter.Platter
	e *Engine
}

func newPlatter(t *testing.T, blocks int) *platter.Platter {
	t.Helper()
	p, e := platter.New(blocks)
	if e != api.OK {
		t.Fatalf("platter.New(%d): %v", blocks, e)
	}
	return p
}

// made is a new disk, mounted.
func made(t *testing.T, blocks, sectors int) bench {
	t.Helper()
	p := newPlatter(t, blocks)
	if e := Format(p, sectors, 1); e != api.OK {
		t.Fatalf("Format: %v", e)
	}
	return mounted(t, p)
}

// mounted is an engine that Mount must return.
func mounted(t *testing.T, p *platter.Platter) bench {
	t.Helper()
	e, err := Mount(p)
	if err != api.OK || e == nil {
		t.Fatalf("Mount = %v, %v", e, err)
	}
	return bench{t: t, p: p, e: e}
}

// again is the disk as it is found if it is mounted anew, after a loss of all
// that is not synced.
func (b bench) again() bench {
	b.t.Helper()
	p := b.p.Copy()
	p.Crash(nil)
	return mounted(b.t, p)
}

// sectorOf is a sector's bytes, which cannot be compressed and are others in each
// generation.
func sectorOf(key, gen int) []byte {
	s := make([]byte, api.Sector)
	rand.New(rand.NewSource(int64(gen)<<16 + int64(key))).Read(s)
	return s
}

// write writes an extent of the sectors of keys, and returns their entries.
func (b bench) write(keys ...int) []tree.Entry {
	b.t.Helper()
	l, e := b.tryWrite(keys...)
	if e != api.OK {
		b.t.Fatalf("Write: %v", e)
	}
	return l
}

func (b bench) tryWrite(keys ...int) ([]tree.Entry, api.Errno) {
	b.t.Helper()
	gen := b.e.Crown().Gen + 1
	var sectors [][]byte
	for _, key := range keys {
		sectors = append(sectors, sectorOf(key, gen))
	}
	data, e := extent.Build(sectors, gen, 1)
	if e != api.OK {
		b.t.Fatal(e)
	}
	x, e := b.e.Slab().Write(data)
	if e != api.OK {
		return nil, e
	}
	var l []tree.Entry
	for i, key := range keys {
		l = append(l, tree.Entry{Key: key, P: api.Place{At: x.At, N: x.N, Slot: i}, Gen: gen})
	}
	return l, api.OK
}

// commit wants that Commit returns OK.
func (b bench) commit(put []tree.Entry, cut ...int) {
	b.t.Helper()
	if e := b.e.Commit(put, cut); e != api.OK {
		b.t.Fatalf("Commit(%v, %v) = %v", put, cut, e)
	}
}

// state is all that can be seen of a disk.
type state struct {
	crown   crown.Crown
	entries map[int]tree.Entry
	free    []api.Run
	uses    []walk.Use
	useErr  api.Errno
	frozen  bool
}

// state reads the platter, so that no fault should be planned.
func (b bench) state() state {
	b.t.Helper()
	x := state{crown: b.e.Crown(), entries: map[int]tree.Entry{}, free: b.e.Runs(), frozen: b.e.Frozen()}
	x.uses, x.useErr = b.e.Uses()
	for key := range b.e.Crown().Sectors {
		entry, is, e := b.e.Get(key)
		if e == api.OK && is {
			x.entries[key] = entry
		}
	}
	return x
}

// sameAs wants that both are the same state, whether frozen or not.
func (x state) sameAs(t *testing.T, what string, y state) {
	t.Helper()
	x.frozen, y.frozen = false, false
	if !reflect.DeepEqual(x, y) {
		t.Errorf("%s: the state is\n%+v, want\n%+v", what, x, y)
	}
}

// has wants that the disk has these entries only, that their sectors can be read,
// and that each block has one use.
func (b bench) has(what string, want map[int]tree.Entry) {
	b.t.Helper()
	if got := b.state().entries; !maps.Equal(got, want) {
		b.t.Errorf("%s: the entries are %v, want %v", what, got, want)
	}
	for key, x := range want {
		l, e := b.e.Slab().Extent(x.P, x.Gen)
		if e != api.OK || x.P.Slot >= len(l) || !bytes.Equal(l[x.P.Slot], sectorOf(key, x.Gen)) {
			b.t.Errorf("%s: sector %d is not in %+v: %v", what, key, x, e)
		}
	}
	b.whole(what)
}

// whole wants that the crowns, the free runs and the uses have each block once.
func (b bench) whole(what string) {
	b.t.Helper()
	count := make([]int, b.p.Blocks())
	count[0], count[1] = 1, 1
	l, e := b.e.Uses()
	if e != api.OK {
		b.t.Errorf("%s: Uses: %v", what, e)
	}
	all := b.e.Runs()
	for _, u := range l {
		all = append(all, u.Run)
	}
	for _, x := range all {
		for i := range x.N {
			count[x.At+i]++
		}
	}
	for block, n := range count {
		if n != 1 {
			b.t.Errorf("%s: block %d is there %d times", what, block, n)
		}
	}
	// And every run is as often used as after a Mount.
	_, counts, e := walk.Fill(l, b.p.Blocks())
	if e != api.OK || !slices.Equal(counts.List(), b.e.counts.List()) || len(b.e.counts.Late()) > 0 {
		b.t.Errorf("%s: in use are %v, late %v, want %v, %v", what, b.e.counts.List(), b.e.counts.Late(), counts.List(), e)
	}
	for _, x := range counts.List() {
		if got, want := b.e.counts.Uses(x.At), counts.Uses(x.At); got != want {
			b.t.Errorf("%s: %v has %d uses, want %d", what, x, got, want)
		}
	}
}

// contents is the bytes of all blocks as they would be read, and those that are
// durable.
func contents(p *platter.Platter) (seen, durable []byte) {
	p = p.Copy()
	p.Fail(nil)
	all := func() []byte {
		var out []byte
		for n := range p.Blocks() {
			b, _ := p.Read(n)
			out = append(out, b...)
		}
		return out
	}
	seen = all()
	p.Crash(nil)
	return seen, all()
}

// countsOf is how often each kind of operation was requested.
func countsOf(p *platter.Platter) [3]int {
	return [3]int{p.Count(platter.Read), p.Count(platter.Write), p.Count(platter.Sync)}
}

// untouched calls f, and wants that it does nothing with the platter.
func untouched(t *testing.T, what string, p *platter.Platter, f func()) {
	t.Helper()
	before, counts := p.Copy(), countsOf(p)
	f()
	if counts != countsOf(p) || !reflect.DeepEqual(before, p) {
		t.Errorf("%s did something with the platter", what)
	}
}

// blockOf is the contents of block n.
func blockOf(t *testing.T, p *platter.Platter, n int) []byte {
	t.Helper()
	p = p.Copy()
	p.Fail(nil)
	b, e := p.Read(n)
	if e != api.OK {
		t.Fatalf("block %d: %v", n, e)
	}
	return b
}

// setCrown writes a crown to a block and syncs.
func setCrown(t *testing.T, p *platter.Platter, n int, c crown.Crown) {
	t.Helper()
	b, e := crown.Encode(c)
	if e != api.OK {
		t.Fatalf("crown.Encode(%+v): %v", c, e)
	}
	p.Write(n, b)
	p.Sync()
}

// rot changes a bit of block n that no checksum misses. A second call for the
// same block changes it back.
func rot(t *testing.T, p *platter.Platter, n int) {
	t.Helper()
	p.Sync()
	if !p.Rot(n, 67, 1) {
		t.Fatalf("there is no block %d", n)
	}
}

// mapOf is the entries of l by their keys.
func mapOf(lists ...[]tree.Entry) map[int]tree.Entry {
	m := map[int]tree.Entry{}
	for _, l := range lists {
		for _, x := range l {
			m[x.Key] = x
		}
	}
	return m
}

// bits is n bools, true where x has a bit.
func bits(n, x int) []bool {
	l := make([]bool, n)
	for i := range l {
		l[i] = x>>i&1 == 1
	}
	return l
}

// blocksOf is the blocks that a state uses.
func blocksOf(x state) []int {
	var l []int
	for _, u := range x.uses {
		for i := range u.Run.N {
			l = append(l, u.Run.At+i)
		}
	}
	return l
}

// mustLoad is the root's node.
func mustLoad(t *testing.T, b bench) node.Node {
	t.Helper()
	n, e := b.e.Slab().Load(b.e.Crown().Root.Kid)
	if e != api.OK {
		t.Fatal(e)
	}
	return n
}
