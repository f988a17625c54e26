package slab

import (
	"bytes"
	"math"
	"math/rand"
	"reflect"
	"slices"
	"testing"

	"concertina/api"
	"concertina/node"
	"concertina/platter"
	"concertina/runs"
	"concertina/shares"
)

// bench is a slab, and what it was made of.
type bench struct {
	t  *testing.T
	s  *Slab
	p  *platter.Platter
	sh *shares.Shares
	r  *runs.Runs
}

// made is a slab on a platter of that many blocks, of which the first two are
// taken.
func made(t *testing.T, blocks, gen int) bench {
	t.Helper()
	p, e := platter.New(blocks)
	if e != api.OK {
		t.Fatalf("platter.New(%d): %v", blocks, e)
	}
	r := runs.New(blocks)
	r.Mark(0, 2)
	sh := shares.New(r)
	s := New(p, sh, r, gen)
	if s == nil {
		t.Fatal("New = nil")
	}
	return bench{t: t, s: s, p: p, sh: sh, r: r}
}

// state is all that can be seen of a bench without changing it.
type state struct {
	free, used, late []api.Run
	uses             []int
	blocks           []byte
	cached           int
	counts           [3]int
}

func (b bench) state() state {
	x := state{free: b.r.List(), used: b.sh.List(), late: b.sh.Late(), cached: b.p.Cached()}
	for _, u := range x.used {
		x.uses = append(x.uses, b.sh.Uses(u.At))
	}
	for i := range x.counts {
		x.counts[i] = b.p.Count(platter.Read + i)
	}
	p := b.p.Copy()
	p.Fail(nil)
	for n := range p.Blocks() {
		block, _ := p.Read(n)
		x.blocks = append(x.blocks, block...)
	}
	return x
}

// same calls f, and wants that the bench is then as before.
func (b bench) same(what string, f func()) {
	b.t.Helper()
	before := b.state()
	f()
	if after := b.state(); !reflect.DeepEqual(before, after) {
		b.t.Errorf("%s changed something", what)
	}
}

// write wants that Write returns this run, and that the blocks are there.
func (b bench) write(data []byte, want api.Run) {
	b.t.Helper()
	if x, e := b.s.Write(data); x != want || e != api.OK {
		b.t.Fatalf("Write(%d bytes) = %v, %v, want %v, OK", len(data), x, e, want)
	}
	if n := b.sh.Uses(want.At); n != 1 {
		b.t.Errorf("Write(%d bytes): %d uses of %v, want 1", len(data), n, want)
	}
	if !slices.Contains(b.sh.List(), want) {
		b.t.Errorf("Write(%d bytes): no run %v in use: %v", len(data), want, b.sh.List())
	}
	for i := range want.N {
		got, e := b.p.Read(want.At + i)
		if e != api.OK || !bytes.Equal(got, data[i*api.Block:(i+1)*api.Block]) {
			b.t.Errorf("Write(%d bytes): block %d of %v is %x, %v", len(data), i, want, got, e)
		}
	}
}

func (b bench) notWritten(data []byte, want api.Errno) {
	b.t.Helper()
	if x, e := b.s.Write(data); x != (api.Run{}) || e != want {
		b.t.Errorf("Write(%d bytes) = %v, %v, want none, %v", len(data), x, e, want)
	}
}

// read wants that Read returns these bytes.
func (b bench) read(x api.Run, want []byte) {
	b.t.Helper()
	if got, e := b.s.Read(x); e != api.OK || !bytes.Equal(got, want) {
		b.t.Errorf("Read(%v) = %x, %v, want %x, OK", x, got, e, want)
	}
}

func (b bench) notRead(x api.Run, want api.Errno) {
	b.t.Helper()
	if got, e := b.s.Read(x); e != want || len(got) != 0 {
		b.t.Errorf("Read(%v) = %d bytes, %v, want none, %v", x, len(got), e, want)
	}
}

func (b bench) free(want ...api.Run) {
	b.t.Helper()
	if got := b.r.List(); !slices.Equal(got, want) {
		b.t.Errorf("free are %v, want %v", got, want)
	}
}

// counted is n blocks, in which no two adjacent ones are equal.
func counted(n int, from byte) []byte {
	b := make([]byte, n*api.Block)
	for i := range b {
		b[i] = from + byte(i) + byte(i/api.Block)
	}
	return b
}

// extremes is numbers that are far beyond all blocks.
var extremes = [...]int{math.MinInt, math.MinInt + 1, -1 << 62, -1 << 32, -1 << 31, 1 << 31, 1 << 32, 1 << 62, math.MaxInt - 1, math.MaxInt}

func TestP15_1WriteTakesTheFirstRunThatIsLongEnough(t *testing.T) {
	b := made(t, 64, 1)
	b.write(counted(3, 1), api.Run{At: 2, N: 3})
	b.write(counted(1, 2), api.Run{At: 5, N: 1})
	b.write(counted(8, 3), api.Run{At: 6, N: 8})
	b.write(counted(1, 4), api.Run{At: 14, N: 1})
	b.free(api.Run{At: 15, N: 49})
	for _, at := range []int{2, 6} {
		b.sh.Less(at)
	}
	// What is late is not free yet.
	b.write(counted(2, 5), api.Run{At: 15, N: 2})
	b.free(api.Run{At: 17, N: 47})
	b.sh.Settle()
	b.free(api.Run{At: 2, N: 3}, api.Run{At: 6, N: 8}, api.Run{At: 17, N: 47})
	b.write(counted(4, 6), api.Run{At: 6, N: 4})
	b.write(counted(9, 7), api.Run{At: 17, N: 9})
	b.write(counted(3, 8), api.Run{At: 2, N: 3})
	b.write(counted(4, 9), api.Run{At: 10, N: 4})
	b.free(api.Run{At: 26, N: 38})
	b.read(api.Run{At: 5, N: 1}, counted(1, 2))
	b.read(api.Run{At: 14, N: 1}, counted(1, 4))
	b.read(api.Run{At: 15, N: 2}, counted(2, 5))
	b.read(api.Run{At: 0, N: 2}, make([]byte, 2*api.Block))
}

func TestP15_1WriteIsCachedOnceForEachBlock(t *testing.T) {
	b := made(t, 64, 1)
	for n := 1; n <= 10; n++ {
		cached, counts := b.p.Cached(), b.p.Count(platter.Write)
		if _, e := b.s.Write(counted(n, 1)); e != api.OK {
			t.Fatal(e)
		}
		if b.p.Cached() != cached+n || b.p.Count(platter.Write) != counts+n {
			t.Errorf("Write of %d blocks: %d writes, of which %d are cached", n, b.p.Count(platter.Write)-counts, b.p.Cached()-cached)
		}
	}
	if b.p.Count(platter.Sync) != 0 {
		t.Error("Write has synced")
	}
}

func TestP15_1WriteLengths(t *testing.T) {
	b := made(t, 64, 1)
	for _, n := range []int{0, 1, 2, 16, 63, 65, 127, 129, 191, 193, 100 * api.Block / 3, 62*api.Block + 1, api.MaxBlocks*api.Block - 1} {
		b.same("Write", func() { b.notWritten(make([]byte, n), api.ErrArg) })
	}
	b.same("Write", func() { b.notWritten(nil, api.ErrArg) })
	for n := range 5*api.Block + 1 {
		if n > 0 && n%api.Block == 0 {
			b.write(make([]byte, n), api.Run{At: 64 - b.r.Free(), N: n / api.Block})
		} else {
			b.notWritten(make([]byte, n), api.ErrArg)
		}
	}
}

func TestP15_1WriteFull(t *testing.T) {
	for _, blocks := range []int{api.MinBlocks, 1000, api.MaxBlocks} {
		b := made(t, blocks, 1)
		for _, n := range []int{blocks - 1, blocks, blocks + 1, 2*blocks + 7} {
			b.same("Write", func() { b.notWritten(counted(n, 1), api.ErrFull) })
		}
		b.write(counted(blocks-2, 9), api.Run{At: 2, N: blocks - 2})
		b.free()
		b.same("Write", func() { b.notWritten(counted(1, 1), api.ErrFull) })
		b.read(api.Run{At: 2, N: blocks - 2}, counted(blocks-2, 9))
		b.sh.Less(2)
		b.same("Write", func() { b.notWritten(counted(1, 1), api.ErrFull) })
		b.sh.Settle()
		b.write(counted(blocks-2, 8), api.Run{At: 2, N: blocks - 2})
	}
}

func TestP15_1WriteFullThoughEnoughBlocksAreFree(t *testing.T) {
	b := made(t, 64, 1)
	for range 31 {
		b.s.Write(counted(1, 1))
		b.s.Write(counted(1, 2))
	}
	for at := 3; at < 64; at += 2 {
		b.sh.Less(at)
	}
	b.sh.Settle()
	if b.r.Free() != 31 {
		t.Fatalf("%d blocks are free", b.r.Free())
	}
	b.same("Write", func() { b.notWritten(counted(2, 3), api.ErrFull) })
	b.write(counted(1, 3), api.Run{At: 3, N: 1})
}

func TestP15_1WriteFailsOnThePlatter(t *testing.T) {
	const n = 5
	for bad := 1; bad <= n; bad++ {
		b := made(t, 64, 1)
		b.write(counted(2, 1), api.Run{At: 2, N: 2})
		b.sh.Settle()
		b.p.Fail([]platter.Fault{{Op: platter.Write, At: bad}})
		b.notWritten(counted(n, 2), api.ErrIO)
		// The run stays allocated, with one use, until Back frees it.
		b.free(api.Run{At: 9, N: 55})
		if want := []api.Run{{At: 2, N: 2}, {At: 4, N: n}}; !slices.Equal(b.sh.List(), want) || b.sh.Uses(4) != 1 {
			t.Errorf("in use are %v, %d times, want %v", b.sh.List(), b.sh.Uses(4), want)
		}
		b.p.Fail(nil)
		b.write(counted(1, 3), api.Run{At: 9, N: 1})
		b.sh.Back()
		b.free(api.Run{At: 4, N: 60})
		b.read(api.Run{At: 2, N: 2}, counted(2, 1))
		b.write(counted(n, 4), api.Run{At: 4, N: n})
	}
}

func TestP15_1WriteBeyondThePlatter(t *testing.T) {
	p, _ := platter.New(64)
	r := runs.New(66)
	r.Mark(0, 62)
	sh := shares.New(r)
	b := bench{t: t, s: New(p, sh, r, 1), p: p, sh: sh, r: r}
	b.notWritten(counted(3, 1), api.ErrArg)
	b.free(api.Run{At: 65, N: 1})
	sh.Back()
	b.free(api.Run{At: 62, N: 4})
	b.write(counted(2, 2), api.Run{At: 62, N: 2})
	// The first error of the platter counts.
	b.p.Fail([]platter.Fault{{Op: platter.Write, At: 1}})
	b.notWritten(counted(2, 3), api.ErrIO)
	b.free()
}

func TestP15_1WriteErrorsInOrder(t *testing.T) {
	b := made(t, 64, 1)
	faults := []platter.Fault{{Op: platter.Write, At: 1}}
	b.p.Fail(faults)
	b.same("Write", func() {
		b.notWritten(make([]byte, 64*api.Block+1), api.ErrArg)
		b.notWritten(make([]byte, api.Block-1), api.ErrArg)
		b.notWritten(nil, api.ErrArg)
		b.notWritten(make([]byte, 63*api.Block), api.ErrFull)
	})
	b.notWritten(make([]byte, 62*api.Block), api.ErrIO)
	b.p.Fail(faults)
	b.same("Write", func() {
		b.notWritten(make([]byte, api.Block+1), api.ErrArg)
		b.notWritten(nil, api.ErrArg)
		b.notWritten(make([]byte, api.Block), api.ErrFull)
	})
}

func TestP15_1WriteSharesNothing(t *testing.T) {
	b := made(t, 64, 1)
	room := counted(4, 1)
	b.write(room[:2*api.Block], api.Run{At: 2, N: 2})
	if !bytes.Equal(room, counted(4, 1)) {
		t.Error("Write changed its argument or what lies behind it")
	}
	clear(room)
	b.read(api.Run{At: 2, N: 2}, counted(2, 1))
	for range 2 {
		x, _ := b.s.Read(api.Run{At: 2, N: 2})
		y, _ := b.s.Read(api.Run{At: 2, N: 2})
		clear(x[:cap(x)])
		if !bytes.Equal(y, counted(2, 1)) {
			t.Error("two results of Read share memory")
		}
		b.read(api.Run{At: 2, N: 2}, counted(2, 1))
		b.read(api.Run{At: 4, N: 1}, make([]byte, api.Block))
		b.p.Sync()
	}
}

func TestP15_1WriteWhereTheCallerFreedARunInUse(t *testing.T) {
	b := made(t, 64, 1)
	b.write(counted(2, 1), api.Run{At: 2, N: 2})
	b.sh.More(2)
	b.r.Give(2, 2)
	if x, e := b.s.Write(counted(2, 2)); x != (api.Run{At: 2, N: 2}) || e != api.OK {
		t.Errorf("Write = %v, %v, want {2 2}, OK", x, e)
	}
	b.read(api.Run{At: 2, N: 2}, counted(2, 2))
	b.free(api.Run{At: 4, N: 60})
}

func TestP15_1ReadEveryRun(t *testing.T) {
	b := made(t, 64, 1)
	all := counted(64, 7)
	for n := range 64 {
		b.p.Write(n, all[n*api.Block:(n+1)*api.Block])
	}
	for at := -3; at < 68; at++ {
		for n := -3; n < 68; n++ {
			x := api.Run{At: at, N: n}
			if at >= 0 && n >= 1 && at+n <= 64 {
				b.read(x, all[at*api.Block:(at+n)*api.Block])
			} else {
				b.notRead(x, api.ErrArg)
			}
		}
	}
}

func TestP15_1ReadLimits(t *testing.T) {
	for _, blocks := range []int{api.MinBlocks, 777, api.MaxBlocks} {
		b := made(t, blocks, 1)
		all := append(make([]byte, 2*api.Block), counted(blocks-2, 3)...)
		b.write(all[2*api.Block:], api.Run{At: 2, N: blocks - 2})
		b.read(api.Run{At: 0, N: blocks}, all)
		b.read(api.Run{At: blocks - 1, N: 1}, all[len(all)-api.Block:])
		b.same("Read", func() {
			for _, x := range []api.Run{{At: 0, N: 0}, {At: 0, N: blocks + 1}, {At: 1, N: blocks}, {At: blocks, N: 1}, {At: blocks, N: 0}, {At: -1, N: 1}, {At: -1, N: blocks}, {At: blocks - 1, N: 2}, {At: 5, N: -1}} {
				b.notRead(x, api.ErrArg)
			}
			for _, x := range extremes {
				for _, y := range append(extremes[:], -1, 0, 1, blocks) {
					b.notRead(api.Run{At: x, N: y}, api.ErrArg)
					b.notRead(api.Run{At: y, N: x}, api.ErrArg)
				}
			}
		})
	}
}

func TestP15_1ReadFailsOnThePlatter(t *testing.T) {
	b := made(t, 64, 1)
	b.write(counted(5, 1), api.Run{At: 2, N: 5})
	for bad := 1; bad <= 5; bad++ {
		b.p.Fail([]platter.Fault{{Op: platter.Read, At: bad}})
		// An invalid run is rejected without a read.
		b.notRead(api.Run{At: 2, N: 0}, api.ErrArg)
		b.notRead(api.Run{At: 63, N: 2}, api.ErrArg)
		b.notRead(api.Run{At: 2, N: 5}, api.ErrIO)
		b.p.Fail(nil)
		b.read(api.Run{At: 2, N: 5}, counted(5, 1))
		b.p.Fail([]platter.Fault{{Op: platter.Read, At: bad + 1}})
		b.read(api.Run{At: 2, N: bad}, counted(5, 1)[:bad*api.Block])
		b.p.Fail(nil)
	}
}

func TestP15_1ReadAfterSyncAndCrash(t *testing.T) {
	b := made(t, 64, 1)
	b.write(counted(2, 1), api.Run{At: 2, N: 2})
	b.p.Sync()
	b.write(counted(2, 5), api.Run{At: 4, N: 2})
	b.p.Crash([]bool{false, true})
	b.read(api.Run{At: 2, N: 2}, counted(2, 1))
	b.read(api.Run{At: 4, N: 2}, append(make([]byte, api.Block), counted(2, 5)[api.Block:]...))
}

func TestP15_1SlabsOfOnePlatter(t *testing.T) {
	b := made(t, 64, 1)
	b.write(counted(3, 1), api.Run{At: 2, N: 3})
	// A slab keeps nothing of its own: another one goes on where it stopped.
	b.s = New(b.p, b.sh, b.r, 9)
	b.read(api.Run{At: 2, N: 3}, counted(3, 1))
	b.write(counted(1, 2), api.Run{At: 5, N: 1})
}

func TestP15_1Nothing(t *testing.T) {
	b := made(t, 64, 1)
	var p *platter.Platter
	var sh *shares.Shares
	var r *runs.Runs
	for _, s := range []*Slab{New(p, b.sh, b.r, 1), New(b.p, sh, b.r, 1), New(b.p, b.sh, r, 1), New(nil, nil, nil, 1)} {
		if s != nil {
			t.Error("New of a nil pointer is not nil")
		}
		none := bench{t: t, s: s}
		s.Gen(3)
		none.notWritten(counted(1, 1), api.ErrArg)
		none.notWritten(nil, api.ErrArg)
		none.notRead(api.Run{At: 2, N: 1}, api.ErrArg)
		none.notLoaded(node.Kid{At: 2, N: 1, Gen: 1}, api.ErrArg)
		none.notSaved(node.Node{}, api.ErrArg)
		none.noExtent(api.Place{At: 2, N: 1}, 1, api.ErrArg)
	}
}

func TestP15_1SlabThatNewHasNotMade(t *testing.T) {
	s := new(Slab)
	s.Gen(3)
	if _, e := s.Write(counted(1, 1)); e == api.OK {
		t.Error("Write without a platter is OK")
	}
	if _, e := s.Read(api.Run{At: 0, N: 1}); e == api.OK {
		t.Error("Read without a platter is OK")
	}
	if _, e := s.Save(node.Node{}); e == api.OK {
		t.Error("Save without a platter is OK")
	}
	if _, e := s.Load(node.Kid{At: 0, N: 1, Gen: 3}); e == api.OK {
		t.Error("Load without a platter is OK")
	}
	if _, e := s.Extent(api.Place{At: 0, N: 1}, 3); e == api.OK {
		t.Error("Extent without a platter is OK")
	}
}

// plainWrite is Write as the chapter tells it, on a bench that has no slab.
func plainWrite(b bench, data []byte) (api.Run, api.Errno) {
	if len(data) == 0 || len(data)%api.Block != 0 {
		return api.Run{}, api.ErrArg
	}
	x := api.Run{N: len(data) / api.Block}
	at, ok := b.r.Take(x.N)
	if !ok {
		return api.Run{}, api.ErrFull
	}
	x.At = at
	b.sh.Add(x)
	for block := range slices.Chunk(data, api.Block) {
		if e := b.p.Write(at, block); e != api.OK {
			return api.Run{}, e
		}
		at++
	}
	return x, api.OK
}

// plainRead is Read as the chapter tells it.
func plainRead(b bench, x api.Run) ([]byte, api.Errno) {
	if x.N < 1 || x.At < 0 || x.At+x.N > b.p.Blocks() {
		return nil, api.ErrArg
	}
	var out []byte
	for n := x.At; n < x.At+x.N; n++ {
		block, e := b.p.Read(n)
		if e != api.OK {
			return nil, e
		}
		out = append(out, block...)
	}
	return out, api.OK
}

func TestP15_1AgainstPlain(t *testing.T) {
	for seed := range 30 {
		rnd := rand.New(rand.NewSource(int64(seed)))
		got, want := made(t, 64, 1), made(t, 64, 1)
		for range 300 {
			stepBoth(rnd, got, want)
			if x, y := got.state(), want.state(); !reflect.DeepEqual(x, y) {
				t.Fatalf("seed %d: %v are free and %v in use, want %v and %v", seed, x.free, x.used, y.free, y.used)
			}
		}
	}
}

// stepBoth makes the same call, chosen by rnd, with a slab and with plain
// functions.
func stepBoth(rnd *rand.Rand, got, want bench) {
	got.t.Helper()
	at := rnd.Intn(64)
	if l := got.sh.List(); len(l) > 0 && rnd.Intn(4) > 0 {
		at = l[rnd.Intn(len(l))].At
	}
	op, bad := 1+rnd.Intn(2), 1+rnd.Intn(8)
	data, x := counted(rnd.Intn(9), byte(rnd.Int())), api.Run{At: at - rnd.Intn(2), N: rnd.Intn(8)}
	if rnd.Intn(8) == 0 {
		data = append(data, 1)
	}
	switch what := rnd.Intn(30); {
	case what < 9:
		a, e := got.s.Write(data)
		if b, f := plainWrite(want, data); a != b || e != f {
			got.t.Errorf("Write(%d bytes) = %v, %v, want %v, %v", len(data), a, e, b, f)
		}
	case what < 15:
		a, e := got.s.Read(x)
		if b, f := plainRead(want, x); !bytes.Equal(a, b) || e != f {
			got.t.Errorf("Read(%v) = %x, %v, want %x, %v", x, a, e, b, f)
		}
	default:
		for _, b := range []bench{got, want} {
			stepBelow(b, what, at, platter.Fault{Op: op, At: bad})
		}
	}
}

// stepBelow makes a call with what a slab stands on.
func stepBelow(b bench, what, at int, f platter.Fault) {
	switch {
	case what < 17:
		b.sh.More(at)
	case what < 24:
		b.sh.Less(at)
	case what < 26:
		b.sh.Settle()
	case what < 27:
		b.sh.Back()
	case what < 28:
		b.p.Sync()
	case what < 29:
		b.p.Crash([]bool{true, at%2 == 0, false, true})
	default:
		b.p.Fail([]platter.Fault{f})
	}
}
