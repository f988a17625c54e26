package commit

import (
	"bytes"
	"fmt"
	"maps"
	"math/rand"
	"slices"
	"testing"

	"concertina/api"
	"concertina/crown"
	"concertina/leaf"
	"concertina/node"
	"concertina/platter"
	"concertina/tree"
)

// notCommitted wants that Commit returns an error, and that the engine is then as
// by Abort.
func (b bench) notCommitted(what string, put []tree.Entry, cut []int, want api.Errno, before state) {
	b.t.Helper()
	if e := b.e.Commit(put, cut); e != want {
		b.t.Errorf("%s: Commit = %v, want %v", what, e, want)
	}
	b.state().sameAs(b.t, what, before)
	b.whole(what)
}

func TestP18_2Commit(t *testing.T) {
	b := made(t, 64, 100)
	b.has("nothing", nil)
	l := b.write(1, 2, 3)
	b.commit(l)
	want := mapOf(l)
	b.has("the first", want)
	// The entries of put count more than the keys of cut, keys that are not there
	// are cut too, and of several entries with one key the last one counts.
	l = append(b.write(2, 50), b.write(50, 60)...)
	b.commit(l, 1, 2, 60, 99, 99)
	want = map[int]tree.Entry{2: l[0], 3: want[3], 50: l[2], 60: l[3]}
	b.has("put and cut", want)
	b.commit(nil)
	b.has("nothing", want)
	b.commit([]tree.Entry{}, []int{}...)
	b.has("nothing", want)
	b.commit(nil, 3, 50)
	delete(want, 3)
	delete(want, 50)
	b.has("cut", want)
	b.again().has("mounted", want)
	b.commit(nil, 2, 60)
	b.has("all cut", nil)
	b.again().has("all cut", nil)
	if c := b.e.Crown(); c.Gen != 7 || c.Root.Height != 0 || c.Blocks != 64 || c.Sectors != 100 {
		t.Errorf("the crown is %+v", c)
	}
}

func TestP18_2CommitCrown(t *testing.T) {
	b := made(t, 64, 100)
	before := b.e.Crown()
	kept := blockOf(t, b.p, 1)
	for gen := 2; gen < 20; gen++ {
		b.commit(b.write(gen))
		c := b.e.Crown()
		want := before
		want.Gen, want.Root = gen, c.Root
		if c != want || c.Root == before.Root || c.Root.Kid.Gen != gen {
			t.Errorf("generation %d: the crown is %+v", gen, c)
		}
		got := blockOf(t, b.p, gen%2)
		if enc, e := crown.Encode(c); e != api.OK || !bytes.Equal(enc, got) {
			t.Errorf("generation %d: block %d is %x, want %x, %v", gen, gen%2, got, enc, e)
		}
		if other := blockOf(t, b.p, 1-gen%2); !bytes.Equal(other, kept) {
			t.Errorf("generation %d: block %d has changed to %x", gen, 1-gen%2, other)
		}
		before, kept = c, got
	}
	// Without any change there is a new generation all the same.
	b.commit(nil)
	if c := b.e.Crown(); c.Gen != 20 {
		t.Errorf("the crown is %+v", c)
	}
	b.again().state().sameAs(t, "mounted", b.state())
}

// What is written until the first Sync does not touch the crowns or what is in
// use, then the crown is written alone, and then synced.
func TestP18_2CommitOrder(t *testing.T) {
	ready := func() (bench, []tree.Entry) {
		b := crashing(t)
		return b, b.write(2, 30)
	}
	b, l := ready()
	old, before := b.again().state(), countsOf(b.p)
	oldSeen, _ := contents(b.p)
	b.p.Fail([]platter.Fault{{Op: platter.Sync, At: 1}})
	b.notCommitted("the first Sync fails", l, []int{7}, api.ErrIO, old)
	frames := b.p.Count(platter.Write) - before[1]
	seen, _ := contents(b.p)
	for _, n := range append(blocksOf(old), 0, 1) {
		if x, y := seen[n*api.Block:(n+1)*api.Block], oldSeen[n*api.Block:(n+1)*api.Block]; !bytes.Equal(x, y) {
			t.Errorf("block %d, which is in use, was overwritten", n)
		}
	}
	b, l = ready()
	b.p.Fail([]platter.Fault{{Op: platter.Sync, At: 2}})
	if e := b.e.Commit(l, []int{7}); e != api.ErrIO || b.p.Cached() != 1 {
		t.Errorf("Commit = %v, %d writes are cached", e, b.p.Cached())
	}
	if _, durable := contents(b.p); !bytes.Equal(durable, seen) {
		t.Error("not all is durable when the crown is written")
	}
	b, l = ready()
	b.commit(l, 7)
	if got := countsOf(b.p); got[1] != before[1]+frames+1 || got[2] != before[2]+2 || b.p.Cached() != 0 {
		t.Errorf("operations %v, before %v, %d are cached", got, before, b.p.Cached())
	}
	after, durable := contents(b.p)
	if !bytes.Equal(after, durable) {
		t.Error("not all is durable after Commit")
	}
	at := b.e.Crown().Gen % 2 * api.Block
	copy(seen[at:at+api.Block], after[at:at+api.Block])
	if !bytes.Equal(seen, after) {
		t.Error("after the first Sync more than a crown was written")
	}
}

func TestP18_2CommitFreesWhatIsNotUsed(t *testing.T) {
	b := made(t, 64, 100)
	l := b.write(1, 2, 3)
	b.write(4)
	unused := b.write(5)
	b.commit(l)
	b.has("written for nothing", mapOf(l))
	if n := unused[0].P.At; !slices.ContainsFunc(b.e.Runs(), func(x api.Run) bool { return n >= x.At && n < x.At+x.N }) {
		t.Errorf("block %d is not free: %v", n, b.e.Runs())
	}
	// A run whose write failed is freed as well.
	b.p.Fail([]platter.Fault{{Op: platter.Write, At: 2}})
	if _, e := b.tryWrite(6); e != api.ErrIO {
		t.Fatalf("Write = %v", e)
	}
	b.commit(nil, 1)
	b.has("a write that failed", mapOf(l[1:]))
	// An extent is in use as long as one sector is.
	b.commit(nil, 3)
	b.has("one sector", mapOf(l[1:2]))
	b.commit(nil, 2)
	b.has("no sector", nil)
	if u, e := b.e.Uses(); e != api.OK || len(u) != 1 || !u[0].Node {
		t.Errorf("Uses = %v, %v", u, e)
	}
}

// Whatever survives of a Commit that was cut off, it is the old state or the new
// one.
func TestP18_2CommitCrashes(t *testing.T) {
	for _, kind := range []int{platter.Write, platter.Sync, platter.Read} {
		for at := 1; ; at++ {
			b := crashing(t)
			old := b.state()
			l := append(b.write(2, 30, 31), b.write(40)...)
			b.p.Fail([]platter.Fault{{Op: kind, At: at}})
			err := b.e.Commit(l, []int{1, 70, 71})
			b.p.Fail(nil)
			if err == api.OK {
				if at < 3 {
					t.Errorf("operation %d of kind %d does not matter", at, kind)
				}
				break
			}
			what := fmt.Sprint(kind, at)
			frozen := kind == platter.Sync && at == 2
			if err != api.ErrIO || b.e.Frozen() != frozen {
				t.Errorf("%s: Commit = %v, Frozen = %v", what, err, b.e.Frozen())
			}
			next := maps.Clone(old.entries)
			maps.Copy(next, mapOf(l))
			for _, key := range []int{1, 70, 71} {
				delete(next, key)
			}
			if frozen {
				b.has(what, next)
			} else {
				b.state().sameAs(t, what, old)
				b.has(what, old.entries)
			}
			b.crashes(what, old.entries, next, frozen)
		}
	}
}

// crashing is a disk on which hardly anything is free but what the last Commit
// freed.
func crashing(t *testing.T) bench {
	t.Helper()
	b := made(t, 80, 100)
	b.commit(append(b.write(1, 2, 3, 4, 5), b.write(70, 71)...))
	b.commit(b.write(6, 7, 8, 9, 2))
	b.commit(b.write(10), 9)
	return b
}

// crashes wants that what survives a crash has one of two contents.
func (b bench) crashes(what string, old, next map[int]tree.Entry, frozen bool) {
	b.t.Helper()
	rnd := rand.New(rand.NewSource(5))
	for range 40 {
		p := b.p.Copy()
		p.Crash(bits(p.Cached(), rnd.Int()))
		m := mounted(b.t, p)
		got := m.state().entries
		if frozen && maps.Equal(got, next) {
			m.has(what, next)
		} else {
			m.has(what, old)
		}
		m.commit(m.write(5))
		m.again().state().sameAs(b.t, what, m.state())
	}
}

func TestP18_2CommitErrState(t *testing.T) {
	b := made(t, 64, 100)
	b.commit(b.write(1, 2))
	last := b.e.Crown()
	last.Gen = 1<<28 - 1
	before := last
	before.Gen--
	setCrown(t, b.p, 1, before)
	setCrown(t, b.p, 0, crown.Crown{Gen: 1<<28 - 3, Blocks: 64, Sectors: 100, Gain: last.Gain, Root: last.Root})
	m := mounted(t, b.p)
	m.commit(m.write(7))
	if got := m.e.Crown(); got.Gen != 1<<28-1 {
		t.Fatalf("the crown is %+v", got)
	}
	m.has("the last generation", m.state().entries)
	for range 2 {
		x, e := m.e.Slab().Write(make([]byte, api.Block))
		if e != api.OK {
			t.Fatal(e)
		}
		was := m.state()
		// ErrState comes before everything else, and nothing is done.
		m.p.Fail([]platter.Fault{{Op: platter.Read, At: 1}, {Op: platter.Sync, At: 1}, {Op: platter.Write, At: 1}})
		untouched(t, "Commit", m.p, func() {
			for _, put := range [][]tree.Entry{nil, {{Key: -1}}, {{Key: 1, P: api.Place{At: x.At, N: 1}}}} {
				for _, cut := range [][]int{nil, {1}, {-1}} {
					if e := m.e.Commit(put, cut); e != api.ErrState {
						t.Errorf("Commit = %v", e)
					}
				}
			}
		})
		m.p.Fail(nil)
		m.state().sameAs(t, "ErrState", was)
		if m.e.Frozen() {
			t.Error("the last generation is frozen")
		}
		m.e.Abort()
		m.whole("Abort")
		m = mounted(t, m.p)
	}
}

func TestP18_2CommitFrozen(t *testing.T) {
	b := made(t, 64, 100)
	b.commit(b.write(1, 2, 3))
	old := b.state()
	l := b.write(2, 60)
	b.p.Fail([]platter.Fault{{Op: platter.Sync, At: 2}})
	if b.e.Frozen() {
		t.Error("frozen too early")
	}
	if e := b.e.Commit(l, []int{3}); e != api.ErrIO || !b.e.Frozen() {
		t.Errorf("Commit = %v, Frozen = %v", e, b.e.Frozen())
	}
	want := mapOf(l)
	want[1] = old.entries[1]
	// has wants that late blocks are free.
	b.has("frozen", want)
	if c := b.e.Crown(); c.Gen != old.crown.Gen+1 {
		t.Errorf("the crown is %+v", c)
	}
	frozen := b.state()
	x, e := b.e.Slab().Write(make([]byte, 2*api.Block))
	if e != api.OK {
		t.Fatal(e)
	}
	was := b.state()
	b.p.Fail([]platter.Fault{{Op: platter.Read, At: 1}, {Op: platter.Sync, At: 1}, {Op: platter.Write, At: 1}})
	untouched(t, "Commit", b.p, func() {
		for _, put := range [][]tree.Entry{nil, {{Key: -1}}, {{Key: 1, P: api.Place{At: x.At, N: 2}}}} {
			for _, cut := range [][]int{nil, {1}, {-1}} {
				if e := b.e.Commit(put, cut); e != api.ErrState {
					t.Errorf("Commit = %v", e)
				}
			}
		}
	})
	b.p.Fail(nil)
	b.state().sameAs(t, "ErrState", was)
	b.e.Abort()
	b.state().sameAs(t, "Abort", frozen)
	if !b.e.Frozen() {
		t.Error("no longer frozen")
	}
	// Mounted anew it goes on, from the new state.
	m := mounted(t, b.p)
	m.state().sameAs(t, "mounted", frozen)
	m.commit(m.write(5))
	if m.e.Frozen() || !b.e.Frozen() {
		t.Error("the engines share something")
	}
}

// Every other error leaves the engine as it was.
func TestP18_2CommitFailsAtEachOperation(t *testing.T) {
	for _, kind := range []int{platter.Read, platter.Write, platter.Sync} {
		b := crashing(t)
		before := b.state()
		failed := 0
		for at := 1; ; at++ {
			l := append(b.write(2, 30, 31), b.write(40)...)
			b.write(77)
			b.p.Fail([]platter.Fault{{Op: kind, At: at}})
			if kind == platter.Sync && at == 2 {
				break
			}
			e := b.e.Commit(l, []int{1, 70})
			b.p.Fail(nil)
			if e == api.OK {
				if c := b.e.Crown(); c.Gen != before.crown.Gen+1 {
					t.Errorf("after %d errors the crown is %+v", failed, c)
				}
				b.whole("in the end")
				break
			}
			failed++
			if e != api.ErrIO || b.e.Frozen() {
				t.Errorf("kind %d, %d: Commit = %v, Frozen = %v", kind, at, e, b.e.Frozen())
			}
			b.state().sameAs(t, "failed", before)
			b.has("failed", before.entries)
			b.again().state().sameAs(t, "failed and mounted", before)
		}
		if failed == 0 {
			t.Errorf("no operation of kind %d matters", kind)
		}
	}
}

func TestP18_2CommitErrorsOfTheTree(t *testing.T) {
	b := made(t, 64, 100)
	b.commit(b.write(1, 2))
	before := b.state()
	for _, key := range append(extremes[:], -1, 512, 600) {
		l := b.write(1)
		l[0].Key = key
		b.notCommitted("a key to put", l, nil, api.ErrArg, before)
		b.write(1)
		b.notCommitted("a key to cut", nil, []int{1, key}, api.ErrArg, before)
		b.notCommitted("a key to cut", b.write(5), []int{key}, api.ErrArg, before)
	}
	for _, x := range []tree.Entry{
		{Key: 1}, {Key: 1, P: api.Place{At: 5}}, {Key: 1, P: api.Place{At: -1, N: 1}}, {Key: 1, P: api.Place{At: 5, N: 129}},
		{Key: 1, P: api.Place{At: 5, N: 1, Slot: 8}}, {Key: 1, P: api.Place{At: 5, N: 1}, Gen: -1}, {Key: 1, P: api.Place{At: 5, N: 1}, Gen: 1 << 28},
	} {
		b.notCommitted(fmt.Sprint(x), append(b.write(5), x), nil, api.ErrArg, before)
	}
	// The keys of cut are cut first, so their errors come first.
	b.p.Fail([]platter.Fault{{Op: platter.Read, At: 1}})
	b.notCommitted("cut before put", []tree.Entry{{Key: -1}}, []int{1}, api.ErrIO, before)
	rot(t, b.p, before.crown.Root.Kid.At)
	for _, cut := range [][]int{nil, {1}} {
		l := b.write(1)
		if e := b.e.Commit(l, cut); e != api.ErrSum {
			t.Errorf("a rotten root: Commit = %v", e)
		}
	}
	rot(t, b.p, before.crown.Root.Kid.At)
	b.state().sameAs(t, "a rotten root", before)
	b.whole("a rotten root")
	b.commit(b.write(1))
}

// What put names must have been written. Else nothing is promised but that a disk
// is left that can be mounted.
func TestP18_2CommitOfWhatIsNotWritten(t *testing.T) {
	b := made(t, 64, 512)
	l := b.write(1, 2)
	b.commit(l)
	before := b.state()
	old := l[0].P
	aborted := b.write(5, 6)
	b.e.Abort()
	b.notCommitted("aborted", aborted, nil, api.ErrArg, before)
	for _, p := range []api.Place{{At: 0, N: 1}, {At: 1, N: 1}, {At: 30, N: 1}, {At: 63, N: 1}, {At: 63, N: 2}, {At: 64, N: 1}, {At: 8000, N: 128}, {At: old.At, N: old.N + 1}} {
		x := tree.Entry{Key: 300, P: p, Gen: 1}
		if e := b.e.Commit([]tree.Entry{x}, nil); e != api.ErrArg && e != api.ErrForm {
			t.Errorf("Commit(%v) = %v", x, e)
		}
		b.state().sameAs(t, fmt.Sprint(x), before)
		b.again().state().sameAs(t, fmt.Sprint(x), before)
	}
	x := l[0]
	x.Key, x.Gen = 300, x.Gen+1
	b.notCommitted("two generations", []tree.Entry{x}, nil, api.ErrForm, before)
	x = l[0]
	x.Key, x.P.At, x.P.N = 300, x.P.At+1, 1
	b.notCommitted("in another extent", []tree.Entry{x}, nil, api.ErrForm, before)
	// An extent that is in use already can be named once more.
	x = l[0]
	x.Key = 300
	b.commit([]tree.Entry{x}, 1, 2)
	if got := b.state().entries; len(got) != 1 || got[300] != x {
		t.Errorf("the entries are %v", got)
	}
	b.whole("an extent in use")
}

func TestP18_2CommitWhenFull(t *testing.T) {
	b := made(t, 64, 512)
	want := map[int]tree.Entry{}
	for key := 0; ; key++ {
		before := b.state()
		l, e := b.tryWrite(key, key+100)
		if e == api.OK {
			e = b.e.Commit(l, nil)
		}
		b.e.Abort()
		if e != api.OK {
			if e != api.ErrFull || key < 3 {
				t.Errorf("sector %d: %v", key, e)
			}
			b.state().sameAs(t, "full", before)
			break
		}
		maps.Copy(want, mapOf(l))
	}
	b.has("full", want)
	b.again().has("full", want)
	// The tree may find no block for a node either.
	for {
		if _, e := b.e.Slab().Write(make([]byte, api.Block)); e != api.OK {
			break
		}
	}
	before := b.again().state()
	b.notCommitted("no block for a node", nil, []int{0}, api.ErrFull, before)
	b.commit(nil, slices.Collect(maps.Keys(want))...)
	b.has("emptied", nil)
	l := b.write(1, 2, 3, 4, 5, 6, 7, 8)
	b.commit(l)
	b.has("used again", mapOf(l))
}

func TestP18_2CommitOfTheGreatestDisk(t *testing.T) {
	b := made(t, api.MaxBlocks, api.MaxSectors)
	want := map[int]tree.Entry{}
	for range 3 {
		var l []tree.Entry
		for key := 0; key < api.MaxSectors; key += 8 {
			l = append(l, b.write(key, key+1, key+2, key+3, key+4, key+5, key+6, key+7)...)
		}
		b.commit(l)
		maps.Copy(want, mapOf(l))
		b.has("full", want)
		b.again().has("full", want)
	}
	var all []int
	for key := range api.MaxSectors {
		all = append(all, key)
	}
	b.commit(nil, all...)
	b.has("empty", nil)
}

// Sectors beyond the disk's are no error of the tree.
func TestP18_2CommitBeyondTheSectors(t *testing.T) {
	b := made(t, 64, 10)
	l := b.write(9, 10, 511)
	b.commit(l, 10, 300)
	b.has("beyond", mapOf(l[:1]))
	b.commit(nil, 9, 511)
	b.whole("beyond")
	if u, e := b.e.Uses(); e != api.OK || len(u) != 2 || !slices.Equal(u[0].Sectors, []int{10}) && !slices.Equal(u[1].Sectors, []int{10}) {
		t.Errorf("Uses = %v, %v", u, e)
	}
}

// Nodes have the generation in which they become part of a state, whatever the
// slab was told.
func TestP18_2CommitGenerations(t *testing.T) {
	b := made(t, 64, 100)
	save := func(want int) {
		t.Helper()
		k, e := b.e.Slab().Save(node.Node{})
		if e != api.OK || k.Gen != want {
			t.Errorf("Save = %v, %v, want generation %d", k, e, want)
		}
	}
	save(2)
	for gen := 2; gen < 9; gen++ {
		for _, x := range []int{0, 1, gen - 1, gen + 1, 1<<28 - 1, -5, 1 << 31} {
			b.e.Slab().Gen(x)
			b.e.Commit([]tree.Entry{{Key: -1}}, nil)
			b.e.Slab().Gen(x)
		}
		b.commit(b.write(gen))
		if c := b.e.Crown(); c.Gen != gen || c.Root.Kid.Gen != gen {
			t.Errorf("generation %d: the crown is %+v", gen, c)
		}
		data, e := b.e.Slab().Read(api.Run{At: b.e.Crown().Root.Kid.At, N: b.e.Crown().Root.Kid.N})
		if got, _, open := leaf.Open(data, 0x4e); e != api.OK || open != api.OK || got != gen {
			t.Errorf("generation %d: the root has %d, %v, %v", gen, got, e, open)
		}
		save(gen + 1)
	}
}

func TestP18_2CommitLeavesItsArguments(t *testing.T) {
	b := made(t, 64, 100)
	put := append(make([]tree.Entry, 0, 10), b.write(9, 2, 2, 5)...)
	cut := append(make([]int, 0, 10), 7, 9, 1, 7)
	wasPut, wasCut := slices.Clone(put[:10]), slices.Clone(cut[:10])
	b.commit(put[:4], cut[:4]...)
	if !slices.Equal(put[:10], wasPut) || !slices.Equal(cut[:10], wasCut) {
		t.Error("Commit changed its arguments")
	}
	want := b.state()
	clear(put[:10])
	clear(cut[:10])
	b.state().sameAs(t, "the arguments cleared", want)
	b.commit(nil)
	if got := b.state().entries; !maps.Equal(got, want.entries) {
		t.Errorf("the entries are %v, want %v", got, want.entries)
	}
}
