package slab

import (
	"bytes"
	"math"
	"math/rand"
	"slices"
	"testing"

	"concertina/api"
	"concertina/extent"
	"concertina/leaf"
	"concertina/node"
	"concertina/platter"
)

// sectorsOf is n sectors. Those of an odd seed cannot be compressed well.
func sectorsOf(n int, seed int64) [][]byte {
	rnd := rand.New(rand.NewSource(seed))
	var l [][]byte
	for range n {
		s := bytes.Repeat([]byte{byte(rnd.Int())}, api.Sector)
		if seed%2 == 1 {
			rnd.Read(s)
		}
		l = append(l, s)
	}
	return l
}

// build writes an extent.
func (b bench) build(l [][]byte, gen int, x float64) api.Place {
	b.t.Helper()
	f, e := extent.Build(l, gen, x)
	if e != api.OK {
		b.t.Fatal(e)
	}
	at := b.put(f)
	return api.Place{At: at.At, N: at.N}
}

// extent wants that Extent returns these sectors, whatever the slot.
func (b bench) extent(p api.Place, gen int, want [][]byte) {
	b.t.Helper()
	for _, slot := range []int{0, 1, 7, 8, -1, math.MinInt, math.MaxInt} {
		p.Slot = slot
		l, e := b.s.Extent(p, gen)
		if e != api.OK || !slices.EqualFunc(l, want, bytes.Equal) {
			b.t.Errorf("Extent(%v, %d) = %x, %v, want %x, OK", p, gen, l, e, want)
		}
	}
}

func (b bench) noExtent(p api.Place, gen int, want api.Errno) {
	b.t.Helper()
	if l, e := b.s.Extent(p, gen); e != want || len(l) != 0 {
		b.t.Errorf("Extent(%v, %d) = %d sectors, %v, want none, %v", p, gen, len(l), e, want)
	}
}

func TestP15_2Extent(t *testing.T) {
	b := made(t, 1000, 5)
	var places []api.Place
	for n := 1; n <= api.Slots; n++ {
		for seed := range int64(4) {
			places = append(places, b.build(sectorsOf(n, seed), 10*n+int(seed), float64(seed/2)))
		}
	}
	for range 2 {
		for i, p := range places {
			n, seed := 1+i/4, i%4
			b.extent(p, 10*n+seed, sectorsOf(n, int64(seed)))
		}
		b.p.Sync()
		b.p.Crash(nil)
		// An extent has its own generation, not the slab's.
		b.s.Gen(6)
	}
}

func TestP15_2ExtentOfAnotherGeneration(t *testing.T) {
	for _, gen := range []int{0, 1, 6, 1<<28 - 1, 1<<31 - 1} {
		b := made(t, 64, 6)
		p := b.build(sectorsOf(2, 4), gen, 1)
		b.extent(p, gen, sectorsOf(2, 4))
		for _, other := range append(extremes[:], gen+1, gen-1, -gen-1, gen+1<<31, gen+1<<32, gen^256, gen^1<<24) {
			b.noExtent(p, other, api.ErrSum)
		}
	}
}

func TestP15_2ExtentErrorsOfRead(t *testing.T) {
	b := made(t, 64, 5)
	l := sectorsOf(2, 1)
	p := b.build(l, 6, 1)
	b.p.Fail([]platter.Fault{{Op: platter.Read, At: 1}})
	b.same("Extent", func() {
		for _, x := range []api.Place{{At: 2, N: 0}, {At: 2, N: -1}, {At: 64, N: 1}, {At: 63, N: 2}, {At: -1, N: 2}, {At: 2, N: 63}} {
			b.noExtent(x, 6, api.ErrArg)
		}
		for _, x := range extremes {
			b.noExtent(api.Place{At: 2, N: x}, 6, api.ErrArg)
			b.noExtent(api.Place{At: x, N: 5}, 6, api.ErrArg)
			b.noExtent(api.Place{At: x, N: x, Slot: x}, x, api.ErrArg)
		}
	})
	for bad := 1; bad <= p.N; bad++ {
		for _, c := range []struct {
			p   api.Place
			gen int
		}{{p, 6}, {p, 7}, {api.Place{At: p.At, N: p.N + 1}, 6}, {api.Place{At: 30, N: p.N}, 6}} {
			b.p.Fail([]platter.Fault{{Op: platter.Read, At: bad}})
			b.noExtent(c.p, c.gen, api.ErrIO)
		}
	}
	b.extent(p, 6, l)
}

func TestP15_2ExtentErrorsOfOpen(t *testing.T) {
	b := made(t, 200, 5)
	p := b.build(sectorsOf(2, 1), 6, 1)
	for _, gen := range []int{6, 7, -1} {
		// What extent.Open finds comes before a wrong generation.
		b.noExtent(api.Place{At: p.At, N: p.N - 1}, gen, api.ErrShort)
		b.noExtent(api.Place{At: p.At, N: p.N + 1}, gen, api.ErrLong)
		b.noExtent(api.Place{At: p.At + 1, N: 1}, gen, api.ErrForm)
		b.noExtent(api.Place{At: 100, N: 1}, gen, api.ErrForm)
	}
	sector := make([]byte, api.Sector)
	raw := append([]byte{1, 0, 0x80, 1}, sector...)
	for _, c := range []struct {
		kind byte
		data []byte
		want api.Errno
	}{
		{0xe7, nil, api.ErrShort},
		{0xe7, []byte{1, 0, 1}, api.ErrShort},
		{0xe7, append(slices.Clone(raw), 0), api.ErrLong},
		{0xe7, []byte{0, 0, 0}, api.ErrForm},
		{0xe7, []byte{api.Slots + 1, 0, 0}, api.ErrForm},
		{0xe7, []byte{1, 3, 0}, api.ErrForm},
		{0xe7, []byte{1, 0, 0}, api.ErrShort},
		{0xe7, []byte{1, 0, 1, 7}, api.ErrShort},
		{0xe7, append([]byte{1, 0, 0x81, 1, 9}, sector...), api.ErrLong},
		{0x4e, raw, api.ErrForm},
		{0xe6, raw, api.ErrForm},
	} {
		k := b.frame(c.kind, 6, c.data)
		for _, gen := range []int{6, 5, 7, -1, math.MaxInt} {
			b.noExtent(api.Place{At: k.At, N: k.N}, gen, c.want)
		}
	}
	k := b.frame(0xe7, 6, raw)
	b.extent(api.Place{At: k.At, N: k.N}, 6, [][]byte{sector})
	b.noExtent(api.Place{At: k.At, N: k.N}, 7, api.ErrSum)
}

func TestP15_2ExtentOfRottenBlocks(t *testing.T) {
	b := made(t, 64, 5)
	l := sectorsOf(1, 1)
	p := b.build(l, 6, 1)
	b.p.Sync()
	for bit := range p.N * 8 * api.Block {
		n, at := p.At+bit/(8*api.Block), bit%(8*api.Block)
		b.p.Rot(n, at, 1)
		if got, e := b.s.Extent(p, 6); e == api.OK || len(got) != 0 {
			t.Errorf("bit %d: Extent = %x, %v", bit, got, e)
		}
		b.p.Rot(n, at, 1)
	}
	b.extent(p, 6, l)
	b.p.Rot(p.At, 200, 1)
	b.noExtent(p, 6, api.ErrSum)
	b.noExtent(p, 7, api.ErrSum)
}

func TestP15_2NodesAndExtentsAreNotMistaken(t *testing.T) {
	b := made(t, 64, 5)
	k, e := b.s.Save(leafOf(2, false))
	if e != api.OK {
		t.Fatal(e)
	}
	p := b.build(sectorsOf(1, 2), 5, 1)
	b.noExtent(api.Place{At: k.At, N: k.N}, 5, api.ErrForm)
	b.notLoaded(node.Kid{At: p.At, N: p.N, Gen: 5}, api.ErrForm)
	b.load(k, leafOf(2, false))
	b.extent(p, 5, sectorsOf(1, 2))
}

func TestP15_2ExtentIsNewMemory(t *testing.T) {
	b := made(t, 64, 5)
	p := b.build(sectorsOf(3, 4), 6, 1)
	x, _ := b.s.Extent(p, 6)
	y, _ := b.s.Extent(p, 6)
	for _, s := range x {
		clear(s[:cap(s)])
	}
	clear(x[:cap(x)])
	if !slices.EqualFunc(y, sectorsOf(3, 4), bytes.Equal) {
		t.Error("two results of Extent share memory")
	}
	b.extent(p, 6, sectorsOf(3, 4))
	if leaf.Blocks(1) != p.N {
		t.Errorf("three equal sectors have %d blocks", p.N)
	}
}
