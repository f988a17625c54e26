package commit

import (
	"bytes"
	"fmt"
	"slices"
	"testing"

	"concertina/api"
	"concertina/crown"
	"concertina/platter"
	"concertina/tree"
	"concertina/walk"
)

// notMounted wants that Mount returns an error and writes nothing.
func notMounted(t *testing.T, what string, p *platter.Platter, want api.Errno) {
	t.Helper()
	seen, _ := contents(p)
	writes := p.Count(platter.Write)
	if e, err := Mount(p); e != nil || err != want {
		t.Errorf("%s: Mount = %v, %v, want none, %v", what, e, err, want)
	}
	if after, _ := contents(p); !bytes.Equal(seen, after) || p.Count(platter.Write) != writes {
		t.Errorf("%s: Mount has written", what)
	}
}

// copied is a platter of another size with the same blocks, as many as it has.
func copied(t *testing.T, p *platter.Platter, blocks int) *platter.Platter {
	t.Helper()
	q := newPlatter(t, blocks)
	for n := range min(blocks, p.Blocks()) {
		q.Write(n, blockOf(t, p, n))
	}
	q.Sync()
	return q
}

// planted is a disk whose tree has these entries, whatever they name. That tree
// is not written by Commit.
func planted(t *testing.T, l ...tree.Entry) bench {
	t.Helper()
	b := made(t, 64, 512)
	c := b.e.Crown()
	c.Gen++
	r, e := tree.Put(b.e.Slab(), c.Root, l)
	if e != api.OK {
		t.Fatal(e)
	}
	c.Root = r
	setCrown(t, b.p, 0, c)
	return b
}

func TestP18_1Mount(t *testing.T) {
	for _, blocks := range []int{api.MinBlocks, 1000, api.MaxBlocks} {
		b := made(t, blocks, 512)
		b.commit(b.write(1, 2, 3))
		b.commit(b.write(511, 3), 2)
		want := b.state()
		seen, _ := contents(b.p)
		counts := countsOf(b.p)
		for range 3 {
			m := mounted(t, b.p)
			m.state().sameAs(t, "mounted", want)
			m.whole("mounted")
			if m.e.Frozen() {
				t.Error("a mounted engine is frozen")
			}
		}
		after, durable := contents(b.p)
		if !bytes.Equal(seen, after) || !bytes.Equal(seen, durable) || b.p.Count(platter.Write) != counts[1] {
			t.Error("Mount has written")
		}
	}
}

func TestP18_1MountSyncsFirst(t *testing.T) {
	b := made(t, 64, 100)
	b.commit(b.write(1, 2))
	old := b.state()
	l := b.write(2, 3)
	b.p.Fail([]platter.Fault{{Op: platter.Sync, At: 2}})
	if e := b.e.Commit(l, nil); e != api.ErrIO {
		t.Fatalf("Commit = %v", e)
	}
	if b.p.Cached() != 1 {
		t.Fatalf("%d writes are cached", b.p.Cached())
	}
	b.again().state().sameAs(t, "lost", old)
	// What is cached belongs to the state, and is not lost from then on.
	reads, syncs := b.p.Count(platter.Read), b.p.Count(platter.Sync)
	b.p.Fail([]platter.Fault{{Op: platter.Read, At: 1}})
	notMounted(t, "a Read that fails", b.p, api.ErrIO)
	if b.p.Cached() != 0 || b.p.Count(platter.Read) != reads+1 || b.p.Count(platter.Sync) != syncs+1 {
		t.Errorf("Mount has not called Sync before it read: %d writes are cached", b.p.Cached())
	}
	want := mapOf(l)
	want[1] = old.entries[1]
	b.again().has("mounted before", want)
}

func TestP18_1MountErrorsInOrder(t *testing.T) {
	if e, err := Mount(nil); e != nil || err != api.ErrArg {
		t.Errorf("Mount(nil) = %v, %v", e, err)
	}
	far := tree.Entry{Key: 300, P: api.Place{At: 63, N: 2}, Gen: 1}
	b := planted(t, far)
	notMounted(t, "what Fill does not take", b.p, api.ErrForm)
	for at := 1; at < 20; at++ {
		p := b.p.Copy()
		p.Fail([]platter.Fault{{Op: platter.Read, At: at}})
		if e, err := Mount(p); e != nil || err != api.ErrIO && err != api.ErrForm || at <= 3 && err != api.ErrIO {
			t.Errorf("Read %d fails: Mount = %v, %v", at, e, err)
		}
	}
	c, _, _ := crown.Choose(blockOf(t, b.p, 0), blockOf(t, b.p, 1))
	rot(t, b.p, c.Root.Kid.At)
	notMounted(t, "also what Uses does not take", b.p, api.ErrSum)
	// From here on the crown has the wrong number of blocks too.
	b.p = copied(t, b.p, 128)
	counts := countsOf(b.p)
	notMounted(t, "also a wrong number of blocks", b.p, api.ErrForm)
	if got := b.p.Count(platter.Read); got != counts[0]+2 {
		t.Errorf("Mount reads %d blocks of a platter with a wrong number", got-counts[0])
	}
	b.p.Fail([]platter.Fault{{Op: platter.Read, At: 3}})
	notMounted(t, "also a third Read that fails", b.p, api.ErrForm)
	b.p.Fail(nil)
	rot(t, b.p, 1)
	notMounted(t, "also a rotten crown", b.p, api.ErrSum)
	b.p.Fail([]platter.Fault{{Op: platter.Read, At: 2}})
	notMounted(t, "also a second Read that fails", b.p, api.ErrIO)
	b.p.Fail([]platter.Fault{{Op: platter.Read, At: 1}})
	notMounted(t, "also a first Read that fails", b.p, api.ErrIO)
	counts = countsOf(b.p)
	b.p.Fail([]platter.Fault{{Op: platter.Sync, At: 1}, {Op: platter.Read, At: 1}})
	notMounted(t, "also a Sync that fails", b.p, api.ErrIO)
	if got := b.p.Count(platter.Read); got != counts[0] {
		t.Error("Mount reads although Sync fails")
	}
	if e, err := Mount(new(platter.Platter)); e != nil || err != api.ErrArg {
		t.Errorf("Mount of no blocks = %v, %v", e, err)
	}
}

func TestP18_1MountErrorsOfTheCrowns(t *testing.T) {
	b := made(t, 64, 100)
	notMounted(t, "never formatted", newPlatter(t, 64), api.ErrNone)
	first := b.e.Crown()
	b.commit(b.write(1, 2))
	second := b.e.Crown()
	for n := range 2 {
		p := b.p.Copy()
		rot(t, p, n)
		notMounted(t, "a rotten crown", p, api.ErrSum)
		p = b.p.Copy()
		p.Write(n, make([]byte, api.Block))
		if n == 0 {
			// A blank block beside the first crown says that there was no Commit.
			mounted(t, p).has("the first crown alone", map[int]tree.Entry{})
		} else {
			notMounted(t, "a lost crown", p, api.ErrSum)
		}
		p = b.p.Copy()
		setCrown(t, p, n, []crown.Crown{first, second}[n])
		notMounted(t, "one generation twice", p, api.ErrForm)
		p = b.p.Copy()
		p.Write(0, make([]byte, api.Block))
		p.Write(1, make([]byte, api.Block))
		notMounted(t, "two blank crowns", p, api.ErrNone)
	}
	for _, blocks := range []int{65, 128, api.MaxBlocks} {
		notMounted(t, "on a greater platter", copied(t, b.p, blocks), api.ErrForm)
		p := made(t, blocks, 100).p
		notMounted(t, "on a smaller platter", copied(t, p, 64), api.ErrForm)
	}
	mounted(t, copied(t, b.p, 64)).state().sameAs(t, "on another platter", b.state())
}

func TestP18_1MountErrorsOfTheTree(t *testing.T) {
	b := made(t, 200, 100)
	for i := range 9 {
		b.commit(b.write(8*i, 8*i+1, 8*i+2, 8*i+3, 8*i+4, 8*i+5, 8*i+6, 8*i+7))
	}
	want, uses := b.state(), b.state().uses
	for _, u := range uses {
		p := b.p.Copy()
		rot(t, p, u.Run.At)
		if u.Node {
			notMounted(t, "a rotten node", p, api.ErrSum)
		} else {
			// Mount does not read the extents.
			mounted(t, p).state().sameAs(t, "a rotten extent", want)
		}
	}
	reads := b.p.Count(platter.Read)
	mounted(t, b.p)
	for at := 1; at <= b.p.Count(platter.Read)-reads; at++ {
		p := b.p.Copy()
		p.Fail([]platter.Fault{{Op: platter.Read, At: at}})
		notMounted(t, "a Read that fails", p, api.ErrIO)
		mounted(t, p).state().sameAs(t, "the next one", want)
	}
	for _, l := range [][]tree.Entry{
		{{Key: 1, P: api.Place{At: 40, N: 2}}, {Key: 2, P: api.Place{At: 41, N: 2}}},
		{{Key: 1, P: api.Place{At: 40, N: 2}}, {Key: 2, P: api.Place{At: 40, N: 2}, Gen: 1}},
		{{Key: 1, P: api.Place{At: 3, N: 1}}},
		{{Key: 1, P: api.Place{At: 0, N: 1}}},
		{{Key: 1, P: api.Place{At: 1, N: 1}}},
		{{Key: 1, P: api.Place{At: 1, N: 2}}},
		{{Key: 1, P: api.Place{At: 60, N: 5}}},
		{{Key: 1, P: api.Place{At: 64, N: 1}}},
		{{Key: 1, P: api.Place{At: 8000, N: 100}}},
	} {
		notMounted(t, fmt.Sprint(l), planted(t, l...).p, api.ErrForm)
	}
	last := planted(t, tree.Entry{Key: 511, P: api.Place{At: 60, N: 4}})
	mounted(t, last.p).whole("up to the last block")
}

// The other crown block is not always that of the next generation modulo 2.
func TestP18_1MountOfCrownsInOtherBlocks(t *testing.T) {
	b := made(t, 64, 100)
	first := b.e.Crown()
	zero := make([]byte, api.Block)
	for gen := 1; gen < 9; gen++ {
		for block := range 2 {
			c := first
			c.Gen = gen
			p := b.p.Copy()
			setCrown(t, p, block, c)
			if c.Gen--; c.Gen > 0 {
				setCrown(t, p, 1-block, c)
			} else {
				p.Write(1-block, zero)
			}
			m := mounted(t, p)
			kept := blockOf(t, p, block)
			for i := range 4 {
				m.commit(m.write(i))
				at := block ^ (1-i)&1
				if !bytes.Equal(blockOf(t, p, 1-at), kept) {
					t.Errorf("generation %d: block %d was overwritten", gen+i, 1-at)
				}
				kept = blockOf(t, p, at)
				if got, e := crown.Decode(kept); e != api.OK || got != m.e.Crown() || got.Gen != gen+i+1 {
					t.Errorf("generation %d: block %d has %+v, %v", gen+i+1, at, got, e)
				}
				m.again().state().sameAs(t, "mounted", m.state())
			}
		}
	}
}

func TestP18_1MountCountsAsFillDoes(t *testing.T) {
	b := made(t, 64, 100)
	b.commit(b.write(1, 2, 3, 4))
	b.commit(b.write(9), 2)
	m := mounted(t, b.p)
	u, e := walk.Uses(m.e.Slab(), m.e.Crown().Root)
	if e != api.OK {
		t.Fatal(e)
	}
	free, counts, e := walk.Fill(u, 64)
	if e != api.OK || !slices.Equal(m.e.Runs(), free.List()) || !slices.Equal(m.e.counts.List(), counts.List()) {
		t.Errorf("Runs = %v, want %v, %v", m.e.Runs(), free.List(), e)
	}
	// Nothing of it is given back by Abort.
	m.e.Abort()
	if !slices.Equal(m.e.Runs(), free.List()) {
		t.Errorf("after Abort: Runs = %v, want %v", m.e.Runs(), free.List())
	}
	m.whole("after Abort")
}
