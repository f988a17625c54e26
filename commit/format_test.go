package commit

import (
	"bytes"
	"fmt"
	"math"
	"slices"
	"testing"

	"concertina/api"
	"concertina/crown"
	"concertina/gain"
	"concertina/leaf"
	"concertina/node"
	"concertina/platter"
	"concertina/tree"
)

// plainFormat is the bytes of blocks 0, 1 and 2 after Format, as the chapter
// tells it.
func plainFormat(t *testing.T, blocks, sectors int, x float64) []byte {
	t.Helper()
	data, e := node.Encode(node.Node{})
	if e != api.OK {
		t.Fatal(e)
	}
	frame, e := leaf.Make(0x4e, 1, data)
	if e != api.OK || len(frame) != api.Block {
		t.Fatalf("an empty node has %d bytes, %v", len(frame), e)
	}
	c, e := crown.Encode(crown.Crown{
		Gen: 1, Blocks: blocks, Sectors: sectors, Gain: gain.Fix(x),
		Root: tree.Root{Kid: node.Kid{At: 2, N: 1, Gen: 1}},
	})
	if e != api.OK {
		t.Fatal(e)
	}
	return slices.Concat(make([]byte, api.Block), c, frame)
}

// used is a platter on which every block has something.
func used(t *testing.T, blocks int) *platter.Platter {
	t.Helper()
	p := newPlatter(t, blocks)
	for n := range blocks {
		p.Write(n, bytes.Repeat([]byte{byte(1 + n%200)}, api.Block))
	}
	p.Sync()
	return p
}

func TestP18_1Format(t *testing.T) {
	for _, blocks := range []int{api.MinBlocks, 65, 1000, api.MaxBlocks} {
		for _, sectors := range []int{1, 2, 100, 511, 512} {
			p := used(t, blocks)
			before, _ := contents(p)
			if e := Format(p, sectors, 0.5); e != api.OK {
				t.Fatalf("Format(%d) = %v", sectors, e)
			}
			seen, durable := contents(p)
			want := append(plainFormat(t, blocks, sectors, 0.5), before[3*api.Block:]...)
			if !bytes.Equal(seen, want) || !bytes.Equal(durable, want) || p.Cached() != 0 {
				t.Errorf("%d blocks, %d sectors: the blocks are\n%x, want\n%x", blocks, sectors, durable[:3*api.Block], want[:3*api.Block])
			}
			mounted(t, p).has("a new disk", map[int]tree.Entry{})
		}
	}
}

func TestP18_1FormatGain(t *testing.T) {
	for _, x := range []float64{0, math.Copysign(0, -1), 0.5, 1, math.Nextafter(1, 2), 7, -1, math.NaN(), math.Inf(1), math.Inf(-1), math.SmallestNonzeroFloat64, -math.SmallestNonzeroFloat64, math.MaxFloat64} {
		p := newPlatter(t, 64)
		if e := Format(p, 5, x); e != api.OK {
			t.Fatalf("Format(%g) = %v", x, e)
		}
		if _, durable := contents(p); !bytes.Equal(durable[:3*api.Block], plainFormat(t, 64, 5, x)) {
			t.Errorf("Format(%g): block 1 is %x", x, durable[api.Block:2*api.Block])
		}
		got, want := mounted(t, p).e.Crown().Gain, gain.Fix(x)
		if math.Float64bits(got) != math.Float64bits(want) {
			t.Errorf("Format(%g): Gain = %g, want %g", x, got, want)
		}
	}
}

func TestP18_1FormatArguments(t *testing.T) {
	p := used(t, 64)
	// A wrong argument comes before the platter's errors.
	p.Fail([]platter.Fault{{Op: platter.Write, At: 1}, {Op: platter.Sync, At: 1}, {Op: platter.Read, At: 1}})
	untouched(t, "Format", p, func() {
		for _, sectors := range append(extremes[:], 0, -1, -512, 513, 514, 1024) {
			if e := Format(p, sectors, 1); e != api.ErrArg {
				t.Errorf("Format(%d) = %v", sectors, e)
			}
		}
	})
	for _, sectors := range append(extremes[:], 0, 1, 512, 513) {
		if e := Format(nil, sectors, 1); e != api.ErrArg {
			t.Errorf("Format(nil, %d) = %v", sectors, e)
		}
	}
	// A platter that New has not made has no blocks.
	if e := Format(new(platter.Platter), 5, 1); e != api.ErrArg {
		t.Errorf("Format of no blocks = %v", e)
	}
}

// op is an operation of Format: a write to a block, or a Sync if there is no data.
type op struct {
	block int
	data  []byte
}

// plainOps is the operations of Format in their order.
func plainOps(t *testing.T, blocks, sectors int, x float64) []op {
	t.Helper()
	end := plainFormat(t, blocks, sectors, x)
	zero, first, root := end[:api.Block], end[api.Block:2*api.Block], end[2*api.Block:]
	return []op{{0, zero}, {1, zero}, {}, {2, root}, {}, {1, first}, {}}
}

// faultAt is the fault that makes operation i fail.
func faultAt(l []op, i int) platter.Fault {
	f := platter.Fault{Op: platter.Write}
	if l[i].data == nil {
		f.Op = platter.Sync
	}
	for _, x := range l[:i+1] {
		if (x.data == nil) == (l[i].data == nil) {
			f.At++
		}
	}
	return f
}

func TestP18_1FormatStepByStep(t *testing.T) {
	l := plainOps(t, 64, 9, 1)
	seen, _ := contents(used(t, 64))
	durable, cached := bytes.Clone(seen), 0
	for i := range l {
		p := used(t, 64)
		p.Fail([]platter.Fault{faultAt(l, i)})
		if e := Format(p, 9, 1); e != api.ErrIO {
			t.Errorf("operation %d fails: Format = %v", i, e)
		}
		gotSeen, gotDurable := contents(p)
		if !bytes.Equal(gotSeen, seen) || !bytes.Equal(gotDurable, durable) || p.Cached() != cached {
			t.Errorf("operation %d fails: %d blocks are cached, want %d, the blocks are\n%x and\n%x, want\n%x and\n%x", i, p.Cached(), cached, gotSeen[:192], gotDurable[:192], seen[:192], durable[:192])
		}
		if l[i].data == nil {
			durable, cached = bytes.Clone(seen), 0
		} else {
			copy(seen[l[i].block*api.Block:], l[i].data)
			cached++
		}
	}
	p := used(t, 64)
	before := countsOf(p)
	Format(p, 9, 1)
	if got := countsOf(p); got != [3]int{before[0], before[1] + 4, before[2] + 3} {
		t.Errorf("Format: operations %v, before %v", got, before)
	}
}

// What a crash leaves of a Format of a disk in use is no disk, the new one, or,
// only as long as the crowns are not erased, the old one.
func TestP18_1FormatAfterCrash(t *testing.T) {
	l := plainOps(t, 64, 9, 1)
	for i := range l {
		for keep := range 4 {
			b := made(t, 64, 100)
			b.commit(b.write(1, 2, 3))
			b.commit(b.write(3, 4))
			old := b.state()
			b.p.Fail([]platter.Fault{faultAt(l, i)})
			if e := Format(b.p, 9, 1); e != api.ErrIO {
				t.Errorf("operation %d fails: Format = %v", i, e)
			}
			kept := bits(b.p.Cached(), keep)
			b.p.Crash(kept)
			what := fmt.Sprint(i, kept)
			e, err := Mount(b.p)
			switch {
			case i < 3 && !slices.Contains(kept, true):
				if err != api.OK {
					t.Fatalf("%s: Mount = %v", what, err)
				}
				bench{t: t, p: b.p, e: e}.state().sameAs(t, what, old)
			case i == 2 && len(kept) == 2 && kept[0] != kept[1] || i == 1:
				if err != api.ErrSum {
					t.Errorf("%s: Mount = %v", what, err)
				}
			case i == 6 && kept[0]:
				if err != api.OK || e.Crown().Sectors != 9 {
					t.Fatalf("%s: Mount = %v", what, err)
				}
				bench{t: t, p: b.p, e: e}.has(what, map[int]tree.Entry{})
			default:
				if err != api.ErrNone {
					t.Errorf("%s: Mount = %v", what, err)
				}
			}
			// It can always be formatted once more.
			if e := Format(b.p, 7, 0); e != api.OK {
				t.Errorf("%s: Format = %v", what, e)
			}
			c := mounted(t, b.p)
			c.has(what, map[int]tree.Entry{})
			c.commit(c.write(6))
			if c.e.Crown().Sectors != 7 || c.e.Crown().Gen != 2 {
				t.Errorf("%s: the crown is %+v", what, c.e.Crown())
			}
		}
	}
}
