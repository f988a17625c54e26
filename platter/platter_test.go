package platter

import (
	"bytes"
	"math"
	"math/rand"
	"slices"
	"testing"

	"concertina/api"
)

// filled is a block in which each byte is x.
func filled(x byte) []byte {
	return bytes.Repeat([]byte{x}, api.Block)
}

// counted is a block in which no two bytes are equal.
func counted(from byte) []byte {
	b := make([]byte, api.Block)
	for i := range b {
		b[i] = from + byte(i)
	}
	return b
}

func made(t *testing.T, blocks int) *Platter {
	t.Helper()
	p, e := New(blocks)
	if p == nil || e != api.OK {
		t.Fatalf("New(%d) = %v, %v", blocks, p, e)
	}
	return p
}

func mustRead(t *testing.T, p *Platter, n int, want []byte) {
	t.Helper()
	b, e := p.Read(n)
	if e != api.OK || !bytes.Equal(b, want) {
		t.Errorf("Read(%d) = %v, %v, want %v", n, b, e, want)
	}
}

func mustNotRead(t *testing.T, p *Platter, n int, want api.Errno) {
	t.Helper()
	if b, e := p.Read(n); b != nil || e != want {
		t.Errorf("Read(%d) = %v, %v, want nil, %v", n, b, e, want)
	}
}

func mustWrite(t *testing.T, p *Platter, n int, b []byte, want api.Errno) {
	t.Helper()
	if e := p.Write(n, b); e != want {
		t.Errorf("Write(%d, %d bytes) = %v, want %v", n, len(b), e, want)
	}
}

func mustSync(t *testing.T, p *Platter, want api.Errno) {
	t.Helper()
	if e := p.Sync(); e != want {
		t.Errorf("Sync() = %v, want %v", e, want)
	}
}

func mustCache(t *testing.T, p *Platter, want int) {
	t.Helper()
	if got := p.Cached(); got != want {
		t.Errorf("Cached() = %d, want %d", got, want)
	}
}

func mustCount(t *testing.T, p *Platter, reads, writes, syncs int) {
	t.Helper()
	got := [3]int{p.Count(Read), p.Count(Write), p.Count(Sync)}
	if got != [3]int{reads, writes, syncs} {
		t.Errorf("counts are %v, want %v", got, [3]int{reads, writes, syncs})
	}
}

func TestP2_1New(t *testing.T) {
	for _, blocks := range []int{api.MinBlocks, api.MinBlocks + 1, 1000, api.MaxBlocks - 1, api.MaxBlocks} {
		p := made(t, blocks)
		if p.Blocks() != blocks {
			t.Errorf("New(%d) has %d blocks", blocks, p.Blocks())
		}
		for n := range blocks {
			mustRead(t, p, n, filled(0))
		}
		mustNotRead(t, p, blocks, api.ErrArg)
		mustCache(t, p, 0)
		mustCount(t, p, blocks+1, 0, 0)
	}
	for _, blocks := range []int{math.MinInt, -api.MinBlocks, -1, 0, 1, api.MinBlocks - 1, api.MaxBlocks + 1, math.MaxInt} {
		if p, e := New(blocks); p != nil || e != api.ErrArg {
			t.Errorf("New(%d) = %v, %v, want nil, ErrArg", blocks, p, e)
		}
	}
}

func TestP2_1WriteAndRead(t *testing.T) {
	for _, blocks := range []int{api.MinBlocks, api.MaxBlocks} {
		p := made(t, blocks)
		last := blocks - 1
		mustWrite(t, p, 0, counted(1), api.OK)
		mustWrite(t, p, last, counted(2), api.OK)
		mustWrite(t, p, 5, counted(3), api.OK)
		mustWrite(t, p, 5, counted(4), api.OK)
		mustCache(t, p, 4)
		for range 2 {
			mustRead(t, p, 0, counted(1))
			mustRead(t, p, 1, filled(0))
			mustRead(t, p, 4, filled(0))
			mustRead(t, p, 5, counted(4))
			mustRead(t, p, 6, filled(0))
			mustRead(t, p, last-1, filled(0))
			mustRead(t, p, last, counted(2))
			mustSync(t, p, api.OK)
			mustCache(t, p, 0)
		}
		mustWrite(t, p, 5, counted(9), api.OK)
		mustRead(t, p, 5, counted(9))
		mustCache(t, p, 1)
	}
}

func TestP2_1InvalidArguments(t *testing.T) {
	p := made(t, 70)
	mustWrite(t, p, 69, filled(7), api.OK)
	for _, n := range []int{math.MinInt, -70, -1, 70, 71, 1 << 32, math.MaxInt} {
		mustNotRead(t, p, n, api.ErrArg)
		mustWrite(t, p, n, filled(1), api.ErrArg)
		mustWrite(t, p, n, nil, api.ErrArg)
	}
	for _, size := range []int{0, 1, api.Block - 1, api.Block + 1, 2 * api.Block, api.Sector} {
		mustWrite(t, p, 69, make([]byte, size), api.ErrArg)
		mustWrite(t, p, 0, make([]byte, size), api.ErrArg)
	}
	mustWrite(t, p, 0, nil, api.ErrArg)
	mustCache(t, p, 1)
	mustRead(t, p, 69, filled(7))
	mustRead(t, p, 0, filled(0))
	mustSync(t, p, api.OK)
	mustRead(t, p, 69, filled(7))
}

func TestP2_1NothingIsShared(t *testing.T) {
	p := made(t, api.MinBlocks)
	room := append(filled(3), filled(9)...)
	mustWrite(t, p, 1, room[:api.Block], api.OK)
	if !bytes.Equal(room, append(filled(3), filled(9)...)) {
		t.Error("Write changed its argument or what lies behind it")
	}
	room[0] = 77
	for range 2 {
		a, _ := p.Read(1)
		b, _ := p.Read(1)
		for _, l := range [][]byte{a[:cap(a)], b[:cap(b)]} {
			clear(l)
			mustRead(t, p, 1, filled(3))
		}
		a[0] = 1
		if b[0] != 0 {
			t.Error("two results of Read share memory")
		}
		mustSync(t, p, api.OK)
	}
	mustRead(t, p, 0, filled(0))
	mustRead(t, p, 2, filled(0))
}

func TestP2_1Sync(t *testing.T) {
	p := made(t, api.MinBlocks)
	mustSync(t, p, api.OK)
	for i := range 5 {
		mustWrite(t, p, 3, filled(byte(i)), api.OK)
		mustWrite(t, p, 10+i, filled(byte(i)), api.OK)
	}
	mustCache(t, p, 10)
	mustSync(t, p, api.OK)
	mustCache(t, p, 0)
	// Crashes lose nothing that was synced, whatever they keep.
	for _, keep := range [][]bool{nil, make([]bool, 10), {true, true, true}} {
		p.Crash(keep)
		mustRead(t, p, 3, filled(4))
		for i := range 5 {
			mustRead(t, p, 10+i, filled(byte(i)))
		}
	}
}

func TestP2_1CrashKeeps(t *testing.T) {
	// Writes 0, 2 and 4 are to block 0, writes 1, 3 and 5 to the last one.
	last := api.MinBlocks - 1
	y, n := true, false
	for _, c := range []struct {
		keep         []bool
		first, other byte
	}{
		{nil, 0, 0},
		{[]bool{}, 0, 0},
		{[]bool{n, n, n, n, n, n}, 0, 0},
		{[]bool{y, y, y, y, y, y}, 5, 6},
		{[]bool{y}, 1, 0},
		{[]bool{n, y}, 0, 2},
		{[]bool{y, n, n, n, y, n}, 5, 0},
		{[]bool{y, n, y}, 3, 0},
		{[]bool{y, y, y, n, n, n}, 3, 2},
		{[]bool{n, n, y, y, n}, 3, 4},
		{[]bool{n, n, n, n, n, y}, 0, 6},
		{[]bool{y, y, y, y, n, n, y, y, y}, 3, 4},
		{[]bool{n, n, n, n, n, n, y}, 0, 0},
		{append([]bool{n, y}, slices.Repeat([]bool{y}, 1000)...), 5, 6},
	} {
		p := made(t, api.MinBlocks)
		for i := range 6 {
			mustWrite(t, p, i%2*last, filled(byte(i+1)), api.OK)
		}
		kept := slices.Clone(c.keep)
		p.Crash(c.keep)
		if !slices.Equal(kept, c.keep) {
			t.Errorf("Crash changed its argument %v", kept)
		}
		mustCache(t, p, 0)
		// A later Sync or Crash finds none of the writes.
		for range 2 {
			mustRead(t, p, 0, filled(c.first))
			mustRead(t, p, last, filled(c.other))
			mustSync(t, p, api.OK)
			p.Crash([]bool{true, true, true, true, true, true})
		}
	}
}

func TestP2_1CrashOverSynced(t *testing.T) {
	p := made(t, api.MinBlocks)
	mustWrite(t, p, 0, filled(1), api.OK)
	p.Crash(nil)
	mustRead(t, p, 0, filled(0))
	mustWrite(t, p, 0, filled(2), api.OK)
	mustSync(t, p, api.OK)
	mustWrite(t, p, 0, filled(3), api.OK)
	mustWrite(t, p, 0, filled(4), api.OK)
	mustRead(t, p, 0, filled(4))
	p.Crash([]bool{false})
	mustRead(t, p, 0, filled(2))
	mustWrite(t, p, 0, filled(5), api.OK)
	mustWrite(t, p, 0, filled(6), api.OK)
	p.Crash([]bool{true, false})
	mustRead(t, p, 0, filled(5))
}

func TestP2_1Copy(t *testing.T) {
	p := made(t, api.MinBlocks)
	mustWrite(t, p, 0, filled(1), api.OK)
	mustSync(t, p, api.OK)
	mustWrite(t, p, 0, filled(2), api.OK)
	mustWrite(t, p, 1, filled(3), api.OK)
	p.Fail([]Fault{{Read, 3}, {Sync, 2}})
	q := p.Copy()
	for _, x := range []*Platter{p, q} {
		if x.Blocks() != api.MinBlocks {
			t.Errorf("a copy has %d blocks", x.Blocks())
		}
		mustCache(t, x, 2)
		mustCount(t, x, 0, 3, 1)
	}
	// The copy alone goes on: what it does is not seen in the original.
	mustWrite(t, q, 0, filled(8), api.OK)
	mustWrite(t, q, 5, filled(9), api.OK)
	q.Rot(7, 0, 1)
	mustRead(t, q, 0, filled(8))
	mustRead(t, q, 5, filled(9))
	mustNotRead(t, q, 0, api.ErrIO)
	mustSync(t, q, api.OK)
	mustSync(t, q, api.ErrIO)
	q.Fail(nil)
	mustCount(t, q, 3, 5, 3)

	mustCache(t, p, 2)
	mustCount(t, p, 0, 3, 1)
	mustRead(t, p, 0, filled(2))
	mustRead(t, p, 5, filled(0))
	mustNotRead(t, p, 0, api.ErrIO)
	mustRead(t, p, 7, filled(0))
	mustWrite(t, p, 0, filled(6), api.OK)
	p.Crash([]bool{true, false, true})
	mustRead(t, p, 0, filled(6))
	mustRead(t, p, 1, filled(0))

	// The original has gone on: what it did is not seen in the copy.
	mustRead(t, q, 0, filled(8))
	mustRead(t, q, 1, filled(3))
	mustRead(t, q, 5, filled(9))
	mustCache(t, q, 0)
}

func TestP2_1CopiesAppendApart(t *testing.T) {
	// Enough lengths of the cache that some of them leave spare capacity.
	for size := range 20 {
		p := made(t, api.MinBlocks)
		for i := range size {
			mustWrite(t, p, i, filled(1), api.OK)
		}
		q := p.Copy()
		mustWrite(t, p, 50, filled(2), api.OK)
		mustWrite(t, q, 51, filled(3), api.OK)
		for _, x := range []*Platter{p, q} {
			mustCache(t, x, size+1)
			mustSync(t, x, api.OK)
		}
		mustRead(t, p, 50, filled(2))
		mustRead(t, p, 51, filled(0))
		mustRead(t, q, 50, filled(0))
		mustRead(t, q, 51, filled(3))
	}
}

func TestP2_1CopyOfMany(t *testing.T) {
	p := made(t, api.MaxBlocks)
	for n := range api.MaxBlocks {
		mustWrite(t, p, n, counted(byte(n)), api.OK)
	}
	q := p.Copy()
	mustSync(t, p, api.OK)
	mustCache(t, q, api.MaxBlocks)
	q.Crash(nil)
	for n := range api.MaxBlocks {
		mustRead(t, p, n, counted(byte(n)))
		mustRead(t, q, n, filled(0))
	}
}

func TestP2_1Nothing(t *testing.T) {
	var none *Platter
	for _, p := range []*Platter{none, none.Copy(), new(Platter), new(Platter).Copy()} {
		mustNotRead(t, p, 0, api.ErrArg)
		mustWrite(t, p, 0, filled(0), api.ErrArg)
		p.Crash([]bool{true})
		mustCache(t, p, 0)
		if p.Blocks() != 0 || p.Rot(0, 0, 1) {
			t.Error("a platter without blocks has one")
		}
	}
	if none.Copy() != nil {
		t.Error("a copy of nil is not nil")
	}
	none.Fail([]Fault{{Read, 1}})
	mustNotRead(t, none, 0, api.ErrArg)
	mustSync(t, none, api.ErrArg)
	mustCount(t, none, 0, 0, 0)
}

func TestP2_2FirstFails(t *testing.T) {
	p := made(t, api.MinBlocks)
	mustWrite(t, p, 0, filled(1), api.OK)
	mustSync(t, p, api.OK)
	mustWrite(t, p, 0, filled(2), api.OK)
	p.Fail([]Fault{{Read, 1}, {Write, 1}, {Sync, 1}})
	mustNotRead(t, p, 0, api.ErrIO)
	mustRead(t, p, 0, filled(2))
	mustWrite(t, p, 0, filled(3), api.ErrIO)
	mustCache(t, p, 1)
	mustRead(t, p, 0, filled(2))
	mustSync(t, p, api.ErrIO)
	mustCache(t, p, 1)
	mustRead(t, p, 0, filled(2))
	// The failed Sync has applied nothing.
	q := p.Copy()
	q.Crash(nil)
	mustRead(t, q, 0, filled(1))
	mustSync(t, p, api.OK)
	mustCache(t, p, 0)
	mustRead(t, p, 0, filled(2))
	mustCount(t, p, 5, 3, 3)
}

// did does one operation of a kind and returns its error.
func did(p *Platter, op int) api.Errno {
	switch op {
	case Read:
		_, e := p.Read(0)
		return e
	case Write:
		return p.Write(0, filled(0))
	}
	return p.Sync()
}

func TestP2_2LaterFails(t *testing.T) {
	for _, op := range []int{Read, Write, Sync} {
		for _, before := range []int{0, 1, 7} {
			p := made(t, api.MinBlocks)
			for range before {
				if e := did(p, op); e != api.OK {
					t.Errorf("kind %d without a fault: %v", op, e)
				}
			}
			// Not in order, and one of them twice.
			p.Fail([]Fault{{op, 9}, {op, 2}, {op, 3}, {op, 300}, {op, 2}})
			for i := 1; i <= 310; i++ {
				for other := Read; other <= Sync; other++ {
					if other == op {
						continue
					}
					if e := did(p, other); e != api.OK {
						t.Errorf("kind %d failed with a fault of kind %d", other, op)
					}
				}
				want := api.OK
				if i == 2 || i == 3 || i == 9 || i == 300 {
					want = api.ErrIO
				}
				if e := did(p, op); e != want {
					t.Errorf("operation %d of kind %d after %d: %v, want %v", i, op, before, e, want)
				}
			}
			if p.Count(op) != before+310 {
				t.Errorf("Count(%d) = %d", op, p.Count(op))
			}
		}
	}
}

func TestP2_2FaultBeforeArgument(t *testing.T) {
	p := made(t, api.MinBlocks)
	p.Fail([]Fault{{Read, 1}, {Read, 3}, {Write, 1}, {Write, 2}, {Write, 4}})
	mustNotRead(t, p, -1, api.ErrIO)
	mustNotRead(t, p, -1, api.ErrArg)
	mustNotRead(t, p, api.MinBlocks, api.ErrIO)
	mustNotRead(t, p, api.MinBlocks, api.ErrArg)
	mustWrite(t, p, api.MinBlocks, filled(1), api.ErrIO)
	mustWrite(t, p, 0, nil, api.ErrIO)
	mustWrite(t, p, -1, nil, api.ErrArg)
	mustWrite(t, p, 0, make([]byte, 65), api.ErrIO)
	mustWrite(t, p, 0, make([]byte, 65), api.ErrArg)
	mustCache(t, p, 0)
	mustCount(t, p, 4, 5, 0)
}

func TestP2_2NoSuchFaults(t *testing.T) {
	p := made(t, api.MinBlocks)
	for range 3 {
		did(p, Read)
		did(p, Write)
		did(p, Sync)
	}
	var l []Fault
	for _, op := range []int{math.MinInt, -1, 0, Sync + 1, 9, math.MaxInt} {
		for at := -2; at < 9; at++ {
			l = append(l, Fault{op, at})
		}
	}
	for _, op := range []int{Read, Write, Sync} {
		for _, at := range []int{math.MinInt, math.MinInt + 4, -3, -2, -1, 0, math.MaxInt - 2, math.MaxInt} {
			l = append(l, Fault{op, at})
		}
	}
	p.Fail(l)
	for i := range 20 {
		for op := Read; op <= Sync; op++ {
			if e := did(p, op); e != api.OK {
				t.Errorf("operation %d of kind %d failed: %v", i, op, e)
			}
		}
	}
	mustCount(t, p, 23, 23, 23)
}

func TestP2_2FailReplaces(t *testing.T) {
	p := made(t, api.MinBlocks)
	l := []Fault{{Read, 1}, {Read, 2}, {Write, 1}}
	p.Fail(l)
	if !slices.Equal(l, []Fault{{Read, 1}, {Read, 2}, {Write, 1}}) {
		t.Error("Fail changed its argument")
	}
	l[1] = Fault{Sync, 1}
	mustSync(t, p, api.OK)
	mustNotRead(t, p, 0, api.ErrIO)
	mustNotRead(t, p, 0, api.ErrIO)
	mustRead(t, p, 0, filled(0))
	p.Fail([]Fault{{Read, 2}})
	mustWrite(t, p, 0, filled(1), api.OK)
	mustRead(t, p, 0, filled(1))
	// Numbers count from the last Fail, also those of a plan that is repeated.
	p.Fail([]Fault{{Read, 2}})
	mustRead(t, p, 0, filled(1))
	mustNotRead(t, p, 0, api.ErrIO)
	mustRead(t, p, 0, filled(1))
	for _, none := range [][]Fault{nil, {}} {
		p.Fail([]Fault{{Read, 1}, {Write, 1}, {Sync, 1}})
		p.Fail(none)
		mustRead(t, p, 0, filled(1))
		mustWrite(t, p, 0, filled(1), api.OK)
		mustSync(t, p, api.OK)
	}
}

func TestP2_2CrashClearsFaults(t *testing.T) {
	p := made(t, api.MinBlocks)
	mustWrite(t, p, 0, filled(1), api.OK)
	p.Fail([]Fault{{Read, 1}, {Read, 2}, {Write, 1}, {Sync, 1}, {Sync, 2}})
	q := p.Copy()
	// A crash is no operation: the faults neither stop it nor are counted down.
	p.Crash([]bool{true})
	mustCount(t, p, 0, 1, 0)
	for range 3 {
		mustRead(t, p, 0, filled(1))
		mustWrite(t, p, 0, filled(1), api.OK)
		mustSync(t, p, api.OK)
	}
	mustCount(t, p, 3, 4, 3)
	mustNotRead(t, q, 0, api.ErrIO)
	mustWrite(t, q, 0, filled(1), api.ErrIO)
	mustSync(t, q, api.ErrIO)
}

func TestP2_2CopyHasFaults(t *testing.T) {
	p := made(t, api.MinBlocks)
	mustRead(t, p, 0, filled(0))
	p.Fail([]Fault{{Read, 3}, {Sync, 1}})
	mustRead(t, p, 0, filled(0))
	q := p.Copy()
	for _, x := range []*Platter{q, p} {
		mustRead(t, x, 0, filled(0))
		mustNotRead(t, x, 0, api.ErrIO)
		mustRead(t, x, 0, filled(0))
		mustSync(t, x, api.ErrIO)
		mustCount(t, x, 5, 0, 1)
	}
	q.Fail([]Fault{{Read, 1}})
	mustRead(t, p, 0, filled(0))
	p.Fail(nil)
	mustNotRead(t, q, 0, api.ErrIO)
}

func TestP2_2Count(t *testing.T) {
	p := made(t, api.MinBlocks)
	p.Write(0, filled(0))
	p.Write(99, filled(0))
	p.Write(0, nil)
	p.Read(0)
	p.Read(-1)
	p.Sync()
	p.Fail([]Fault{{Write, 1}, {Read, 1}, {Sync, 1}})
	p.Write(0, nil)
	p.Read(0)
	p.Sync()
	mustCount(t, p, 3, 4, 2)
	// Nothing else counts, and nothing but New sets the counts to zero.
	p.Crash([]bool{true})
	p.Rot(0, 0, 1)
	p.Rot(-1, 0, 1)
	p.Fail(nil)
	p.Blocks()
	p.Cached()
	p.Copy().Read(0)
	mustCount(t, p, 3, 4, 2)
	for _, op := range []int{math.MinInt, -1, 0, Sync + 1, 5, math.MaxInt} {
		if p.Count(op) != 0 {
			t.Errorf("Count(%d) = %d, want 0", op, p.Count(op))
		}
	}
}

// flipped is b with the bits of mask flipped, from bit on, found bit by bit.
func flipped(b []byte, bit int, mask uint32) []byte {
	b = slices.Clone(b)
	for i := range 32 {
		if at := bit + i; mask>>i&1 == 1 && at < 8*len(b) {
			b[at/8] ^= 1 << (at % 8)
		}
	}
	return b
}

func mustRot(t *testing.T, p *Platter, n, bit int, mask uint32, want bool) {
	t.Helper()
	if got := p.Rot(n, bit, mask); got != want {
		t.Errorf("Rot(%d, %d, %#x) = %v, want %v", n, bit, mask, got, want)
	}
}

func TestP2_2RotBits(t *testing.T) {
	const bits = 8 * api.Block
	for _, n := range []int{0, 30, api.MinBlocks - 1} {
		for bit := range bits {
			for _, mask := range []uint32{0, 1, 3, 0x113, 0x80000000, 0x80000001, 0xdeadbeef, math.MaxUint32} {
				p := made(t, api.MinBlocks)
				mustWrite(t, p, n, counted(5), api.OK)
				mustSync(t, p, api.OK)
				mustRot(t, p, n, bit, mask, true)
				mustRead(t, p, n, flipped(counted(5), bit, mask))
				if n > 0 {
					mustRead(t, p, n-1, filled(0))
				}
				if n+1 < api.MinBlocks {
					mustRead(t, p, n+1, filled(0))
				}
				mustRot(t, p, n, bit, mask, true)
				mustRead(t, p, n, counted(5))
			}
		}
	}
}

func TestP2_2RotPlaces(t *testing.T) {
	for _, c := range []struct {
		bit    int
		mask   uint32
		places map[int]byte
	}{
		{0, 1, map[int]byte{0: 1}},
		{7, 1, map[int]byte{0: 0x80}},
		{8, 1, map[int]byte{1: 1}},
		{4, 0x113, map[int]byte{0: 0x30, 1: 0x11}},
		{4, math.MaxUint32, map[int]byte{0: 0xf0, 1: 0xff, 2: 0xff, 3: 0xff, 4: 0x0f}},
		{480, math.MaxUint32, map[int]byte{60: 0xff, 61: 0xff, 62: 0xff, 63: 0xff}},
		{481, math.MaxUint32, map[int]byte{60: 0xfe, 61: 0xff, 62: 0xff, 63: 0xff}},
		{510, math.MaxUint32, map[int]byte{63: 0xc0}},
		{511, 1, map[int]byte{63: 0x80}},
		{511, 3, map[int]byte{63: 0x80}},
		{511, 2, map[int]byte{}},
		{511, math.MaxUint32 - 1, map[int]byte{}},
	} {
		p := made(t, api.MinBlocks)
		mustRot(t, p, 1, c.bit, c.mask, true)
		want := filled(0)
		for i, x := range c.places {
			want[i] = x
		}
		mustRead(t, p, 1, want)
	}
}

func TestP2_2RotInvalid(t *testing.T) {
	p := made(t, api.MinBlocks)
	for _, mask := range []uint32{0, 1, math.MaxUint32} {
		for _, n := range []int{math.MinInt, -1, api.MinBlocks, api.MaxBlocks, math.MaxInt} {
			mustRot(t, p, n, 0, mask, false)
		}
		for _, bit := range []int{math.MinInt, -32, -8, -1, 512, 513, 520, 1 << 20, math.MaxInt} {
			mustRot(t, p, 0, bit, mask, false)
			mustRot(t, p, 5, bit, mask, false)
		}
	}
	for n := range api.MinBlocks {
		mustRead(t, p, n, filled(0))
	}
}

func TestP2_2RotUnderCache(t *testing.T) {
	p := made(t, api.MinBlocks)
	mustWrite(t, p, 2, filled(6), api.OK)
	mustRot(t, p, 2, 0, 0xff, true)
	mustRead(t, p, 2, filled(6))
	mustCache(t, p, 1)
	q := p.Copy()
	mustRot(t, q, 2, 8, 0xff, true)
	// The write is lost: the rotten block shows, in each platter its own.
	lost := p.Copy()
	lost.Crash(nil)
	mustRead(t, lost, 2, flipped(filled(0), 0, 0xff))
	q.Crash([]bool{false})
	mustRead(t, q, 2, flipped(filled(0), 0, 0xffff))
	// The write is applied: it replaces the rotten block.
	mustSync(t, p, api.OK)
	mustRead(t, p, 2, filled(6))
	// Rot is no operation that can be planned to fail.
	p.Fail([]Fault{{Write, 1}, {Read, 1}})
	mustRot(t, p, 2, 0, 1, true)
	mustNotRead(t, p, 2, api.ErrIO)
	mustRead(t, p, 2, flipped(filled(6), 0, 1))
}

// plain is a platter kept as simply as the chapter tells it.
type plain struct {
	disk   map[int][]byte
	cache  []plainWrite
	faults []Fault
}

type plainWrite struct {
	n int
	b []byte
}

// fails counts the faults down by one operation.
func (m *plain) fails(op int) bool {
	hit := false
	for i := range m.faults {
		if m.faults[i].Op == op {
			m.faults[i].At--
			hit = hit || m.faults[i].At == 0
		}
	}
	return hit
}

func (m *plain) apply(keep func(int) bool) {
	for i, w := range m.cache {
		if keep(i) {
			m.disk[w.n] = w.b
		}
	}
	m.cache = nil
}

func (m *plain) stored(n int) []byte {
	if b, ok := m.disk[n]; ok {
		return b
	}
	return filled(0)
}

func (m *plain) read(n int) []byte {
	for _, w := range slices.Backward(m.cache) {
		if w.n == n {
			return w.b
		}
	}
	return m.stored(n)
}

func TestP2_2AgainstPlain(t *testing.T) {
	for seed := range 40 {
		r := rand.New(rand.NewSource(int64(seed)))
		p := made(t, api.MinBlocks)
		m := &plain{disk: map[int][]byte{}}
		for range 1500 {
			stepBoth(t, r, p, m)
			mustCache(t, p, len(m.cache))
			if r.Intn(50) == 0 {
				p = p.Copy()
			}
		}
	}
}

// stepBoth does the same thing, chosen by r, to a platter and to a plain one.
func stepBoth(t *testing.T, r *rand.Rand, p *Platter, m *plain) {
	t.Helper()
	n, want := r.Intn(12), api.OK
	switch what := r.Intn(40); {
	case what < 15:
		if m.fails(Read) {
			mustNotRead(t, p, n, api.ErrIO)
			return
		}
		mustRead(t, p, n, m.read(n))
	case what < 33:
		b := counted(byte(r.Int()))
		if m.fails(Write) {
			want = api.ErrIO
		} else {
			m.cache = append(m.cache, plainWrite{n, b})
		}
		mustWrite(t, p, n, b, want)
	case what < 35:
		if m.fails(Sync) {
			want = api.ErrIO
		} else {
			m.apply(func(int) bool { return true })
		}
		mustSync(t, p, want)
	case what < 36:
		keep := make([]bool, r.Intn(len(m.cache)+3))
		for i := range keep {
			keep[i] = r.Intn(2) == 0
		}
		m.apply(func(i int) bool { return i < len(keep) && keep[i] })
		m.faults = nil
		p.Crash(keep)
	case what < 38:
		bit, mask := r.Intn(8*api.Block), r.Uint32()
		m.disk[n] = flipped(m.stored(n), bit, mask)
		mustRot(t, p, n, bit, mask, true)
	default:
		var l []Fault
		for range r.Intn(6) {
			l = append(l, Fault{r.Intn(5), r.Intn(12) - 1})
		}
		m.faults = slices.Clone(l)
		p.Fail(l)
	}
}
