package device

import (
	"bytes"
	"fmt"
	"math"
	"reflect"
	"slices"
	"testing"

	"concertina/api"
	"concertina/buffer"
	"concertina/extent"
	"concertina/platter"
	"concertina/walk"
)

// flushIs wants that Flush has that result and does nothing at all.
func (b bench) flushIs(what string, want api.Errno) {
	b.t.Helper()
	b.refuses(what+": Flush", want, b.d.Flush)
}

func TestP20_2FlushOfNothing(t *testing.T) {
	b := made(t, 64, 100)
	b.flushIs("a new disk", api.OK)
	b.write(1, 1, 2)
	b.flush()
	want := b.state()
	b.p.Fail([]platter.Fault{{Op: platter.Write, At: 1}, {Op: platter.Sync, At: 1}, {Op: platter.Read, At: 1}})
	b.flushIs("flushed", api.OK)
	b.trim(50, 0)
	b.flushIs("a trim of nothing", api.OK)
	b.p.Fail(nil)
	b.is("nothing", want)
	b = b.again()
	b.flushIs("mounted", api.OK)
	b.freeze()
	b.flushIs("frozen", api.OK)
}

func TestP20_2FlushErrState(t *testing.T) {
	b := made(t, 64, 100)
	b.write(1, 1, 2)
	b.flush()
	b.write(2, 2, 3)
	b.trim(1, 1)
	b.freeze()
	want := b.state()
	b.p.Fail([]platter.Fault{{Op: platter.Write, At: 1}, {Op: platter.Sync, At: 1}, {Op: platter.Read, At: 1}})
	for range 2 {
		b.flushIs("frozen", api.ErrState)
	}
	b.p.Fail(nil)
	b.is("frozen", want)
	// What is pending can still be read.
	b.readIs("pending", 2, noise(2, 2), api.OK)
	b.readIs("trimmed", 1, make([]byte, api.Sector), api.OK)
	b.readIs("not pending", 4, make([]byte, api.Sector), api.OK)
	if b.d.Pending() != 3 {
		t.Errorf("Pending = %d", b.d.Pending())
	}
}

// groups is l in parts of eight, the last one with the rest.
func groups(l []buffer.Item) [][]buffer.Item {
	var out [][]buffer.Item
	for i, x := range l {
		if i%8 == 0 {
			out = append(out, nil)
		}
		out[len(out)-1] = append(out[len(out)-1], x)
	}
	return out
}

// stores wants that each group of items is an extent of its own, of the current
// generation and built with that gain, and that there are no others of it.
func (b bench) stores(what string, l [][]buffer.Item, gain float64) {
	b.t.Helper()
	e := b.d.Engine()
	gen := e.Crown().Gen
	uses, err := e.Uses()
	if err != api.OK {
		b.t.Fatalf("%s: Uses: %v", what, err)
	}
	uses = slices.DeleteFunc(uses, func(u walk.Use) bool { return u.Node || u.Gen != gen })
	if len(uses) != len(l) {
		b.t.Fatalf("%s: there are %d extents, want %d", what, len(uses), len(l))
	}
	slices.SortFunc(uses, func(x, y walk.Use) int { return x.Sectors[0] - y.Sectors[0] })
	for i, group := range l {
		var sectors []int
		var data [][]byte
		for slot, x := range group {
			sectors, data = append(sectors, x.Sector), append(data, x.Data)
			entry, ok, err := e.Get(x.Sector)
			want := api.Place{At: uses[i].Run.At, N: uses[i].Run.N, Slot: slot}
			if !ok || err != api.OK || entry.P != want || entry.Gen != gen {
				b.t.Errorf("%s: the entry of %d is %+v, %v, %v, want %v of %d", what, x.Sector, entry, ok, err, want, gen)
			}
		}
		if !slices.Equal(uses[i].Sectors, sectors) {
			b.t.Errorf("%s: an extent has the sectors %v, want %v", what, uses[i].Sectors, sectors)
		}
		want, err := extent.Build(data, gen, gain)
		got, readErr := e.Slab().Read(uses[i].Run)
		if err != api.OK || readErr != api.OK || !bytes.Equal(got, want) {
			b.t.Errorf("%s: the extent of %v is %x, want %x", what, sectors, got, want)
		}
	}
}

// Any number of sectors is written, in any order, and others are trimmed.
func TestP20_2FlushStoresExtents(t *testing.T) {
	for _, gain := range []float64{0, 0.3, 0.5, 1, math.NaN()} {
		disk := newPlatter(t, 2000)
		if err := Format(disk, 200, gain); err != api.OK {
			t.Fatal(err)
		}
		b, p := mounted(t, disk), plainNew(200)
		for n := range 65 {
			for i := range n {
				// 7 and 65 have no factor in common with 200 and 65.
				sector := (i*7%65*7 + n) % 200
				data := noise(sector, n)
				copy(data[sector%96:], flat(byte(n)))
				p.write(sector, data)
				if err := b.d.Write(sector, data); err != api.OK {
					t.Fatal(err)
				}
			}
			mustTrim(b, p, n, 64-n)
			written := slices.DeleteFunc(p.list(), func(x buffer.Item) bool { return x.Data == nil })
			b.flush()
			p.flush()
			what := fmt.Sprintf("%d sectors with gain %v", n, gain)
			b.stores(what, groups(written), b.d.Engine().Crown().Gain)
			if n%16 == 0 {
				b.like(what, p, 1)
				b.again().like(what, p, 1)
			}
		}
	}
}

// The threshold is the crown's: it decides how much room the same sectors take.
func TestP20_2FlushUsesTheGain(t *testing.T) {
	blocks := func(gain float64) int {
		p := newPlatter(t, 64)
		if err := Format(p, 100, gain); err != api.OK {
			t.Fatal(err)
		}
		b := mounted(t, p)
		for sector := range 8 {
			if err := b.d.Write(sector, flat(5)); err != api.OK {
				t.Fatal(err)
			}
		}
		b.flush()
		x, _, _ := b.d.Engine().Get(0)
		return x.P.N
	}
	if raw, packed := blocks(0), blocks(1); raw != 17 || packed != 1 {
		t.Errorf("%d blocks with a gain of 0, %d with 1", raw, packed)
	}
}

func TestP20_2FlushCuts(t *testing.T) {
	b, p := pair(t, 200, 100)
	mustWrite(b, p, 1, numbers(0, 60)...)
	b.flush()
	p.flush()
	// Some of these have entries and some do not; some are written again.
	mustTrim(b, p, 50, 30)
	mustWrite(b, p, 2, 55, 70)
	mustTrim(b, p, 0, 8)
	b.flush()
	p.flush()
	b.stores("cut and written", [][]buffer.Item{{{Sector: 55, Data: noise(55, 2)}, {Sector: 70, Data: noise(70, 2)}}}, 1)
	b.like("cut", p, 1)
	b.again().like("cut", p, 1)
	mustTrim(b, p, 8, 50)
	b.flush()
	p.flush()
	b.stores("only cut", nil, 1)
	b.like("only cut", p, 1)
	mustTrim(b, p, 0, 100)
	b.flush()
	p.flush()
	if u, err := b.d.Engine().Uses(); err != api.OK || len(u) != 1 {
		t.Errorf("Uses = %v, %v", u, err)
	}
	b.like("all cut", p, 1)
}

// A Flush is one Commit: two syncs, and between them the crown alone.
func TestP20_2FlushIsOneCommit(t *testing.T) {
	b := made(t, 200, 100)
	for n := range 5 {
		b.write(n, numbers(n, 20)...)
		b.trim(60, n+1)
		before := countsOf(b.p)
		b.flush()
		if got := countsOf(b.p); got[2] != before[2]+2 || b.p.Cached() != 0 {
			t.Errorf("%d syncs, %d are cached", got[2]-before[2], b.p.Cached())
		}
		if gen := b.d.Engine().Crown().Gen; gen != n+2 {
			t.Errorf("the generation is %d, want %d", gen, n+2)
		}
		want := b.state()
		b.again().is("durable", want)
	}
}

// waiting is a disk on which writes and trims are pending, and its model.
func waiting(t *testing.T) (bench, *plain) {
	t.Helper()
	b, p := pair(t, 300, 100)
	mustWrite(b, p, 1, numbers(0, 40)...)
	b.flush()
	p.flush()
	mustWrite(b, p, 2, numbers(30, 20)...)
	mustTrim(b, p, 10, 10)
	return b, p
}

// Each operation of a Flush fails in turn. Then all that survives a crash is one
// of the two states.
func TestP20_2FlushFails(t *testing.T) {
	failed, frozen := [4]int{}, 0
	ready := func() bench {
		b, _ := waiting(t)
		return b
	}
	fails(t, ready, func(what string, b bench, x platter.Fault) bool {
		_, p := waiting(t)
		other, _ := waiting(t)
		want := other.state()
		old := p.clone()
		old.pending = nil
		err := b.d.Flush()
		b.p.Fail(nil)
		if err == api.OK {
			p.flush()
			b.like(what, p, 1)
			return false
		}
		failed[x.Op]++
		next := p.clone()
		next.flush()
		if err != api.ErrIO || b.d.Frozen() != (x == platter.Fault{Op: platter.Sync, At: 2}) {
			t.Errorf("%s: Flush = %v, Frozen = %v", what, err, b.d.Frozen())
		}
		b.survives(what, old, next)
		if b.d.Frozen() {
			frozen++
			b.like(what, next, 1)
			b.flushIs(what, api.OK)
			mounted(t, b.p).like(what, next, 1)
			return true
		}
		b.is(what, want)
		b.flush()
		b.like(what, next, 1)
		b.again().like(what, next, 1)
		return true
	})
	if failed[platter.Read] < 5 || failed[platter.Write] < 30 || failed[platter.Sync] != 2 || frozen != 1 {
		t.Errorf("Flush has failed %v times, frozen were %d", failed, frozen)
	}
}

// survives wants that what a crash leaves is mounted as one of two states, and
// that the old one is among them.
func (b bench) survives(what string, old, next *plain) {
	b.t.Helper()
	seen := 0
	for i := range 12 {
		p := b.p.Copy()
		p.Crash(bits(p.Cached(), i*0x5d583ec9ab3*0x1337))
		m := mounted(b.t, p)
		if m.d.Engine().Crown().Gen == next.commits+1 {
			m.like(what, next, 1)
		} else {
			m.like(what, old, 1)
			seen++
		}
		m.write(7, 3, 50)
		m.flush()
		m.whole(what)
	}
	if seen == 0 || !b.d.Frozen() && seen != 12 {
		b.t.Errorf("%s: the old state was there %d times", what, seen)
	}
}

// There is no room for the extents, or for the nodes.
func TestP20_2FlushErrFull(t *testing.T) {
	b, p := waiting(t)
	before, all := b.state(), b.free()
	kept, next := p.clone(), p.clone()
	kept.pending = nil
	next.flush()
	failed, written := 0, 0
	for free := range all {
		what := fmt.Sprintf("%d blocks are free", free)
		b.hog(free)
		writes := b.p.Count(platter.Write)
		err := b.d.Flush()
		if err == api.OK {
			b.like(what, next, 1)
			break
		}
		failed++
		if b.p.Count(platter.Write) > writes {
			written++
		}
		if err != api.ErrFull {
			t.Errorf("%s: Flush = %v", what, err)
		}
		// All is released, what the test itself has written as well.
		b.is(what, before)
		b.again().like(what, kept, 1)
	}
	needed := 0
	for _, u := range b.state().uses {
		if u.Gen == 3 {
			needed += u.Run.N
		}
	}
	// Commit may save nodes that the new tree does not use.
	if failed < needed || failed > needed+10 || written < needed/2 {
		t.Errorf("Flush fails with less than %d free blocks, %d times in between, and needs %d", failed, written, needed)
	}
	b.again().like("flushed", next, 1)
}

// hog writes through the slab until only so many blocks are free.
func (b bench) hog(free int) {
	b.t.Helper()
	for _, x := range b.d.Engine().Runs() {
		n := min(x.N, b.free()-free)
		if n < 1 {
			return
		}
		if _, err := b.d.Engine().Slab().Write(make([]byte, n*api.Block)); err != api.OK {
			b.t.Fatal(err)
		}
	}
}

// free is the number of free blocks.
func (b bench) free() int {
	n := 0
	for _, x := range b.d.Engine().Runs() {
		n += x.N
	}
	return n
}

// After the last generation there is none.
func TestP20_2FlushAfterTheLastGeneration(t *testing.T) {
	b := made(t, 500, 100)
	b.write(1, numbers(0, 20)...)
	b.flush()
	c := b.d.Engine().Crown()
	c.Gen = 1<<28 - 2
	b.setCrown(1, c)
	c.Gen--
	b.setCrown(0, c)
	b = mounted(t, b.p)
	b.write(2, numbers(10, 30)...)
	b.trim(0, 3)
	b.flush()
	if gen := b.d.Engine().Crown().Gen; gen != 1<<28-1 {
		t.Fatalf("the generation is %d", gen)
	}
	b.readIs("the last generation", 39, noise(39, 2), api.OK)
	b = b.again()
	b.write(3, numbers(5, 30)...)
	b.trim(1, 4)
	want := b.state()
	for range 2 {
		if err := b.d.Flush(); err != api.ErrState {
			t.Errorf("Flush = %v", err)
		}
		b.is("no generation left", want)
	}
	if b.d.Frozen() {
		t.Error("it is frozen")
	}
	b.write(4, numbers(40, 30)...)
	want = b.state()
	if err := b.d.Write(99, flat(1)); err != api.ErrState || b.d.Pending() != 64 {
		t.Errorf("Write = %v, %d are pending", err, b.d.Pending())
	}
	b.is("Write", want)
	if err := b.d.Trim(90, 1); err != api.ErrState {
		t.Errorf("Trim = %v", err)
	}
	b.is("Trim", want)
}

// Commit's other errors are returned as they are.
func TestP20_2FlushErrorsOfTheTree(t *testing.T) {
	b, p := waiting(t)
	want := b.state()
	nodes := 0
	for _, u := range want.uses {
		if !u.Node {
			continue
		}
		nodes++
		b.rot(u.Run.At)
		if err := b.d.Flush(); err != api.ErrSum {
			t.Errorf("Flush = %v", err)
		}
		b.rot(u.Run.At)
		b.is("a rotten node", want)
	}
	if nodes < 3 {
		t.Errorf("there are only %d nodes", nodes)
	}
	// The extents that were written before are not read.
	for _, u := range want.uses {
		if !u.Node {
			b.rot(u.Run.At)
		}
	}
	b.flush()
	p.flush()
	for _, u := range want.uses {
		for _, sector := range u.Sectors {
			// Those that were written again, or trimmed, can be read.
			if sector < 10 || sector >= 20 && sector < 30 {
				b.readIs("a rotten extent", sector, nil, api.ErrLost)
			} else {
				b.readIs("a new extent", sector, []byte(p.reads()[sector]), api.OK)
			}
		}
	}
}

// If the last Sync fails, nothing is pending, and the state is the new one.
func TestP20_2FlushFreezes(t *testing.T) {
	b, p := waiting(t)
	b.p.Fail([]platter.Fault{{Op: platter.Sync, At: 2}})
	if err := b.d.Flush(); err != api.ErrIO || !b.d.Frozen() || b.d.Pending() != 0 {
		t.Errorf("Flush = %v, Frozen = %v, %d are pending", err, b.d.Frozen(), b.d.Pending())
	}
	p.flush()
	b.like("frozen", p, 1)
	b.flushIs("frozen", api.OK)
	b.refuses("Write", api.ErrState, func() api.Errno { return b.d.Write(1, flat(1)) })
	b.refuses("Trim", api.ErrState, func() api.Errno { return b.d.Trim(1, 1) })
	m := mounted(t, b.p)
	m.like("mounted", p, 1)
	if m.d.Frozen() {
		t.Error("it is still frozen")
	}
	mustWrite(m, p, 3, 1, 50)
	m.flush()
	p.flush()
	m.like("goes on", p, 1)
}

// A device that others look at does the same as one that nobody looks at.
func TestP20_2FlushIsTheSameEachTime(t *testing.T) {
	play := func() bench {
		b, _ := waiting(t)
		b.flush()
		b.trim(0, 100)
		return b
	}
	one, two := play(), play()
	if !reflect.DeepEqual(one.p, two.p) {
		t.Error("two platters are not the same")
	}
	one.is("once more", two.state())
}
