package device

import (
	"bytes"
	"fmt"
	"slices"
	"testing"

	"concertina/api"
	"concertina/extent"
	"concertina/leaf"
	"concertina/node"
	"concertina/platter"
	"concertina/tree"
	"concertina/walk"
)

// is wants that Read has that result.
func (b bench) readIs(what string, sector int, want []byte, wantErr api.Errno) {
	b.t.Helper()
	got, err := b.d.Read(sector)
	if !bytes.Equal(got, want) || (got == nil) != (want == nil) || err != wantErr {
		b.t.Errorf("%s: Read(%d) = %x, %v, want %x, %v", what, sector, got, err, want, wantErr)
	}
}

func TestP20_1Read(t *testing.T) {
	b := made(t, 200, 100)
	zero := make([]byte, api.Sector)
	b.readIs("never written", 7, zero, api.OK)
	b.write(1, 7, 8)
	b.readIs("pending", 7, noise(7, 1), api.OK)
	b.readIs("not pending", 9, zero, api.OK)
	b.flush()
	b.readIs("committed", 7, noise(7, 1), api.OK)
	b.readIs("not in the tree", 9, zero, api.OK)
	b.write(2, 7)
	b.readIs("pending again", 7, noise(7, 2), api.OK)
	b.readIs("not pending again", 8, noise(8, 1), api.OK)
	b.trim(7, 2)
	b.readIs("trim pending", 7, zero, api.OK)
	b.readIs("trim pending", 8, zero, api.OK)
	b.d.Write(8, zero)
	b.write(3, 7)
	b.readIs("pending instead of a trim", 7, noise(7, 3), api.OK)
	b.readIs("zero bytes are pending", 8, zero, api.OK)
	b.flush()
	b.readIs("committed again", 7, noise(7, 3), api.OK)
	b.readIs("zero bytes are committed", 8, zero, api.OK)
	if _, ok, err := b.d.Engine().Get(8); !ok || err != api.OK {
		t.Errorf("zero bytes that were written are no write: %v, %v", ok, err)
	}
}

func TestP20_1ReadErrArg(t *testing.T) {
	for _, sectors := range []int{1, 40, 511, 512} {
		b := made(t, 64, sectors)
		b.write(1, sectors-1)
		for range 2 {
			b.untouched("Read", func() {
				for _, sector := range append(extremes[:], -2, -1, sectors, sectors+1, 512, 513) {
					b.readIs(fmt.Sprint(sectors, " sectors"), sector, nil, api.ErrArg)
				}
			})
			b.readIs("the last", sectors-1, noise(sectors-1, 1), api.OK)
			b.flush()
		}
	}
}

// The engine may have entries of sectors that the device does not have.
func TestP20_1ReadBeyondTheSectors(t *testing.T) {
	b := made(t, 64, 40)
	b.write(1, 39)
	b.flush()
	x, _, _ := b.d.Engine().Get(39)
	x.Key = 40
	if err := b.d.Engine().Commit([]tree.Entry{x}, nil); err != api.OK {
		t.Fatal(err)
	}
	b.readIs("beyond", 40, nil, api.ErrArg)
	b.readIs("the last", 39, noise(39, 1), api.OK)
}

// What is pending is read without the platter.
func TestP20_1ReadOfWhatIsPending(t *testing.T) {
	b := made(t, 64, 100)
	b.write(1, 1, 2, 3)
	b.flush()
	b.write(2, 2, 4)
	b.trim(3, 1)
	for _, u := range b.state().uses {
		b.rot(u.Run.At)
	}
	b.p.Fail([]platter.Fault{{Op: platter.Read, At: 1}})
	b.untouched("Read", func() {
		b.readIs("written", 2, noise(2, 2), api.OK)
		b.readIs("trimmed", 3, make([]byte, api.Sector), api.OK)
		b.readIs("written first", 4, noise(4, 2), api.OK)
	})
}

// deep is a disk whose tree has two levels and whose extents have several sectors
// each, not all of them in use.
func deep(t *testing.T) bench {
	t.Helper()
	b := made(t, 300, 120)
	b.write(1, numbers(10, 40)...)
	b.flush()
	b.write(2, numbers(13, 20)...)
	b.trim(40, 3)
	b.flush()
	b.write(3, 100)
	b.flush()
	if b.d.Engine().Crown().Root.Height < 1 {
		t.Fatal("the tree is a leaf")
	}
	return b
}

// Each run in use is lost in turn. What is on a path through it is not read, all
// the rest is as before.
func TestP20_1ReadErrLost(t *testing.T) {
	b := deep(t)
	want := b.reads()
	e := b.d.Engine()
	lost := 0
	for _, u := range b.state().uses {
		for block := u.Run.At; block < u.Run.At+u.Run.N; block++ {
			b.rot(block)
			gone := walk.Check(e.Slab(), e.Crown().Root, b.d.Sectors())
			for sector := range b.d.Sectors() {
				what := fmt.Sprintf("block %d is rotten", block)
				if slices.ContainsFunc(gone, func(x walk.Lost) bool { return sector >= x.From && sector < x.To }) {
					b.readIs(what, sector, nil, api.ErrLost)
					lost++
				} else {
					b.readIs(what, sector, []byte(want[sector]), api.OK)
				}
				if !u.Node && slices.Contains(u.Sectors, sector) {
					b.readIs(what, sector, nil, api.ErrLost)
				}
			}
			b.rot(block)
		}
	}
	if lost < 3*120 {
		t.Errorf("only %d sectors were lost", lost)
	}
	b.readsAs("nothing is rotten", want)
}

// Each operation of a Read fails in turn.
func TestP20_1ReadErrIO(t *testing.T) {
	b := deep(t)
	for sector, want := range b.reads() {
		before := countsOf(b.p)
		b.readIs("without a fault", sector, []byte(want), api.OK)
		after := countsOf(b.p)
		if after[1] != before[1] || after[2] != before[2] {
			t.Errorf("Read(%d) writes", sector)
		}
		for at := range after[0] - before[0] {
			b.p.Fail([]platter.Fault{{Op: platter.Read, At: at + 1}})
			b.readIs(fmt.Sprintf("operation %d fails", at+1), sector, nil, api.ErrIO)
			b.readIs("once more", sector, []byte(want), api.OK)
		}
	}
}

// frame is a node's frame with the blocks of k.
func frame(t *testing.T, k node.Kid, n node.Node) []byte {
	t.Helper()
	data, err := node.Encode(n)
	if err != api.OK {
		t.Fatal(err)
	}
	return framed(t, k, 0x4e, k.Gen, data)
}

func framed(t *testing.T, k node.Kid, kind byte, gen int, data []byte) []byte {
	t.Helper()
	b, err := leaf.Make(kind, gen, data)
	if err != api.OK || len(b) > k.N*api.Block {
		t.Fatalf("%v, a frame of %d blocks", err, len(b)/api.Block)
	}
	return b
}

// Whatever else is wrong on the path to the entry is ErrLost.
func TestP20_1ReadErrLostOfThePath(t *testing.T) {
	b := made(t, 64, 100)
	b.write(1, 7)
	b.flush()
	r := b.d.Engine().Crown().Root
	place := func(at, n, slot int) node.Node {
		return node.Node{Keys: []int{7}, Places: []api.Place{{At: at, N: n, Slot: slot}}, Gens: []int{2}}
	}
	x, _, _ := b.d.Engine().Get(7)
	old, err := b.d.Engine().Slab().Read(api.Run{At: r.Kid.At, N: r.Kid.N})
	if err != api.OK || r.Kid.N != 1 || r.Height != 0 {
		t.Fatalf("the root is %+v, %v", r, err)
	}
	long, err := leaf.Make(0x4e, 2, make([]byte, api.Block))
	if err != api.OK {
		t.Fatal(err)
	}
	for what, data := range map[string][]byte{
		"zero bytes":                 make([]byte, api.Block),
		"too long":                   long[:api.Block],
		"of another kind":            framed(t, r.Kid, 0xe7, 2, nil),
		"of another generation":      framed(t, r.Kid, 0x4e, 1, []byte{0, 0}),
		"without bytes":              framed(t, r.Kid, 0x4e, 2, nil),
		"with bytes left":            framed(t, r.Kid, 0x4e, 2, []byte{0, 0, 0}),
		"an inner node":              frame(t, r.Kid, node.Node{Height: 1, Keys: []int{0}, Kids: []node.Kid{r.Kid}}),
		"a place beyond the platter": frame(t, r.Kid, place(64, 1, 0)),
		"partly beyond the platter":  frame(t, r.Kid, place(63, 2, 0)),
		"a crown's place":            frame(t, r.Kid, place(0, 1, 0)),
		"a node's place":             frame(t, r.Kid, place(r.Kid.At, 1, 0)),
		"a part of the place":        frame(t, r.Kid, place(x.P.At, x.P.N-1, 0)),
		"more than the place":        frame(t, r.Kid, place(x.P.At, x.P.N+1, 0)),
		"a slot too many":            frame(t, r.Kid, place(x.P.At, x.P.N, 1)),
		"the last slot":              frame(t, r.Kid, place(x.P.At, x.P.N, 7)),
	} {
		b.put(r.Kid.At, data)
		b.readIs(what, 7, nil, api.ErrLost)
	}
	b.put(r.Kid.At, frame(t, r.Kid, place(x.P.At, x.P.N, 0)))
	b.readIs("the right place", 7, noise(7, 1), api.OK)
	b.put(r.Kid.At, frame(t, r.Kid, node.Node{}))
	b.readIs("no entry", 7, make([]byte, api.Sector), api.OK)
	b.put(r.Kid.At, old)
	b.readIs("as it was", 7, noise(7, 1), api.OK)
}

// Whatever is wrong with the extent is ErrLost, too.
func TestP20_1ReadErrLostOfTheExtent(t *testing.T) {
	b := made(t, 64, 100)
	l := [][]byte{noise(1, 1), noise(2, 1)}
	for i, data := range l {
		b.d.Write(i+1, data)
	}
	b.flush()
	x, _, _ := b.d.Engine().Get(2)
	build := func(gen int, l ...[]byte) []byte {
		data, err := extent.Build(l, gen, 1)
		if err != api.OK || len(data) > x.P.N*api.Block {
			t.Fatalf("%v, an extent of %d blocks", err, len(data)/api.Block)
		}
		return append(data, make([]byte, x.P.N*api.Block-len(data))...)
	}
	k := node.Kid{N: x.P.N}
	made := func(kind byte, n int) []byte {
		data := make([]byte, n)
		copy(data, []byte{2, 3, 9})
		return framed(t, k, kind, 2, data)
	}
	most := x.P.N*api.Block - 16
	for what, data := range map[string][]byte{
		"zero bytes":            make([]byte, x.P.N*api.Block),
		"of another generation": build(3, l...),
		"too short":             build(2, flat(1), flat(2)),
		"of another kind":       made(0x4e, most),
		"of another format":     made(extent.Kind, most),
	} {
		b.put(x.P.At, data)
		for i := range l {
			b.readIs(what, i+1, nil, api.ErrLost)
		}
	}
	b.put(x.P.At, build(2, l...))
	for i, data := range l {
		b.readIs("the right one", i+1, data, api.OK)
	}
}

// The extent does not have the slot that the entry names.
func TestP20_1ReadOfNoSlot(t *testing.T) {
	b := made(t, 64, 100)
	b.write(1, 10, 11, 12)
	b.flush()
	x, _, _ := b.d.Engine().Get(12)
	var l []tree.Entry
	for slot := range api.Slots {
		x.Key, x.P.Slot = 20+slot, slot
		l = append(l, x)
	}
	if err := b.d.Engine().Commit(l, nil); err != api.OK {
		t.Fatal(err)
	}
	for slot := range api.Slots {
		if slot < 3 {
			b.readIs("a slot", 20+slot, noise(10+slot, 1), api.OK)
		} else {
			b.readIs("no slot", 20+slot, nil, api.ErrLost)
		}
	}
}

// A Read that fails changes nothing, and neither does one that succeeds.
func TestP20_1ReadChangesNothing(t *testing.T) {
	b := deep(t)
	b.write(5, 1, 2)
	b.trim(20, 4)
	before := b.state()
	b.reads()
	b.d.Read(-1)
	b.p.Fail([]platter.Fault{{Op: platter.Read, At: 1}})
	b.readIs("a fault", 15, nil, api.ErrIO)
	root := before.crown.Root.Kid.At
	b.rot(root)
	b.readIs("rotten", 15, nil, api.ErrLost)
	b.rot(root)
	b.is("read", before)
}
