package device

import (
	"fmt"
	"math"
	"math/rand"
	"reflect"
	"testing"

	"concertina/api"
	"concertina/buffer"
	"concertina/crown"
	"concertina/platter"
	"concertina/tree"
	"concertina/walk"
)

// extremes is numbers that are far beyond all blocks, sectors and generations.
var extremes = [...]int{math.MinInt, math.MinInt + 1, -1 << 62, -1 << 32, -1 << 31, 1 << 31, 1 << 32, 1 << 62, math.MaxInt - 1, math.MaxInt}

// kinds is the kinds of operations of a platter.
var kinds = [...]int{platter.Read, platter.Write, platter.Sync}

// bench is a device and the platter below it.
type bench struct {
	t *testing.T
	p *platter.Platter
	d *Device
}

func newPlatter(t *testing.T, blocks int) *platter.Platter {
	t.Helper()
	p, err := platter.New(blocks)
	if err != api.OK {
		t.Fatalf("platter.New(%d): %v", blocks, err)
	}
	return p
}

// made is a new disk, mounted.
func made(t *testing.T, blocks, sectors int) bench {
	t.Helper()
	p := newPlatter(t, blocks)
	if err := Format(p, sectors, 1); err != api.OK {
		t.Fatalf("Format: %v", err)
	}
	return mounted(t, p)
}

// mounted is a device that Mount must return.
func mounted(t *testing.T, p *platter.Platter) bench {
	t.Helper()
	d, err := Mount(p)
	if err != api.OK || d == nil {
		t.Fatalf("Mount = %v, %v", d, err)
	}
	return bench{t: t, p: p, d: d}
}

// again is the disk as it is found if it is mounted anew, after a loss of all
// that is not synced.
func (b bench) again() bench {
	b.t.Helper()
	p := b.p.Copy()
	p.Crash(nil)
	return mounted(b.t, p)
}

// noise is a sector's bytes, which cannot be compressed and are others for each
// key and each n.
func noise(key, n int) []byte {
	s := make([]byte, api.Sector)
	rand.New(rand.NewSource(int64(n)<<16 + int64(key))).Read(s)
	return s
}

// flat is a sector of equal bytes.
func flat(x byte) []byte {
	s := make([]byte, api.Sector)
	for i := range s {
		s[i] = x
	}
	return s
}

// numbers is n numbers in a row.
func numbers(from, n int) []int {
	var l []int
	for i := range n {
		l = append(l, from+i)
	}
	return l
}

// write writes noise to sectors.
func (b bench) write(n int, sectors ...int) {
	b.t.Helper()
	for _, sector := range sectors {
		if err := b.d.Write(sector, noise(sector, n)); err != api.OK {
			b.t.Fatalf("Write(%d) = %v", sector, err)
		}
	}
}

func (b bench) trim(from, n int) {
	b.t.Helper()
	if err := b.d.Trim(from, n); err != api.OK {
		b.t.Fatalf("Trim(%d, %d) = %v", from, n, err)
	}
}

func (b bench) flush() {
	b.t.Helper()
	if err := b.d.Flush(); err != api.OK || b.d.Pending() != 0 {
		b.t.Fatalf("Flush = %v, %d are pending", err, b.d.Pending())
	}
}

// freeze freezes the engine, and leaves alone what is pending.
func (b bench) freeze() {
	b.t.Helper()
	b.p.Fail([]platter.Fault{{Op: platter.Sync, At: 2}})
	if err := b.d.Engine().Commit(nil, nil); err != api.ErrIO || !b.d.Engine().Frozen() {
		b.t.Fatalf("Commit = %v, and the engine is not frozen", err)
	}
}

// reads is what is read of each sector.
func (b bench) reads() []string {
	b.t.Helper()
	var l []string
	for sector := range b.d.Sectors() {
		data, err := b.d.Read(sector)
		if err != api.OK {
			b.t.Errorf("Read(%d): %v", sector, err)
		}
		l = append(l, string(data))
	}
	return l
}

// readsAs wants that sector i has the bytes want[i].
func (b bench) readsAs(what string, want []string) {
	b.t.Helper()
	got := b.reads()
	if len(got) != len(want) {
		b.t.Errorf("%s: there are %d sectors, want %d", what, len(got), len(want))
		return
	}
	for sector, s := range got {
		if s != want[sector] {
			b.t.Errorf("%s: Read(%d) = %x, want %x", what, sector, s, want[sector])
		}
	}
}

// state is all that can be seen of a device.
type state struct {
	reads   []string
	pending []buffer.Item
	crown   crown.Crown
	entries []tree.Entry
	free    []api.Run
	uses    []walk.Use
	useErr  api.Errno
	frozen  bool
}

// state reads the platter, so that no fault should be planned.
func (b bench) state() state {
	b.t.Helper()
	e := b.d.Engine()
	x := state{reads: b.reads(), pending: b.d.pending.List(), crown: e.Crown(), free: e.Runs(), frozen: e.Frozen()}
	x.uses, x.useErr = e.Uses()
	for key := range x.crown.Sectors {
		if entry, ok, err := e.Get(key); ok && err == api.OK {
			x.entries = append(x.entries, entry)
		}
	}
	return x
}

// is wants that the state is as it was.
func (b bench) is(what string, want state) {
	b.t.Helper()
	b.readsAs(what, want.reads)
	got := b.state()
	got.reads, want.reads = nil, nil
	if !reflect.DeepEqual(got, want) {
		b.t.Errorf("%s: the state is\n%+v, want\n%+v", what, got, want)
	}
	b.whole(what)
}

// whole wants that the crowns, the free runs and the uses have each block once.
func (b bench) whole(what string) {
	b.t.Helper()
	count := make([]int, b.p.Blocks())
	count[0], count[1] = 1, 1
	uses, err := b.d.Engine().Uses()
	if err != api.OK {
		b.t.Errorf("%s: Uses: %v", what, err)
	}
	all := b.d.Engine().Runs()
	for _, u := range uses {
		all = append(all, u.Run)
	}
	for _, x := range all {
		for i := range x.N {
			count[x.At+i]++
		}
	}
	for block, n := range count {
		if n != 1 {
			b.t.Errorf("%s: block %d is there %d times", what, block, n)
		}
	}
}

// countsOf is how often each kind of operation was requested.
func countsOf(p *platter.Platter) [3]int {
	return [3]int{p.Count(platter.Read), p.Count(platter.Write), p.Count(platter.Sync)}
}

// untouched calls f, and wants that it does nothing with the platter.
func (b bench) untouched(what string, f func()) {
	b.t.Helper()
	before, cached := countsOf(b.p), b.p.Cached()
	f()
	if got := countsOf(b.p); got != before || b.p.Cached() != cached {
		b.t.Errorf("%s did something with the platter: %v operations, %v before", what, got, before)
	}
}

// rot changes a bit of block n that no checksum misses. A second call for the
// same block changes it back.
func (b bench) rot(n int) {
	b.t.Helper()
	b.p.Sync()
	if !b.p.Rot(n, 67, 1) {
		b.t.Fatalf("there is no block %d", n)
	}
}

// put overwrites the blocks from at on.
func (b bench) put(at int, data []byte) {
	b.t.Helper()
	for i := 0; i < len(data); i += api.Block {
		if err := b.p.Write(at+i/api.Block, data[i:i+api.Block]); err != api.OK {
			b.t.Fatalf("Write: %v", err)
		}
	}
	b.p.Sync()
}

// setCrown writes a crown to a block.
func (b bench) setCrown(n int, c crown.Crown) {
	b.t.Helper()
	data, err := crown.Encode(c)
	if err != api.OK {
		b.t.Fatalf("crown.Encode(%+v): %v", c, err)
	}
	b.put(n, data)
}

// fails calls f once with each operation of each kind failing, until f does so
// many no more, each time with a new bench.
func fails(t *testing.T, ready func() bench, f func(what string, b bench, x platter.Fault) bool) {
	t.Helper()
	for _, kind := range kinds {
		for at := 1; ; at++ {
			b, x := ready(), platter.Fault{Op: kind, At: at}
			b.p.Fail([]platter.Fault{x})
			if !f(fmt.Sprintf("operation %d of kind %d", at, kind), b, x) {
				break
			}
		}
	}
}

// bits is n bools, true where x has a bit.
func bits(n, x int) []bool {
	l := make([]bool, n)
	for i := range l {
		l[i] = x>>(i%60)&1 == 1
	}
	return l
}
