package commit

import (
	"maps"
	"math/rand"
	"reflect"
	"slices"
	"testing"

	"concertina/api"
	"concertina/crown"
	"concertina/platter"
	"concertina/tree"
	"concertina/walk"
)

func TestP18_2Abort(t *testing.T) {
	b := made(t, 64, 100)
	l := b.write(1, 2)
	b.commit(l)
	want := b.state()
	b.e.Abort()
	b.state().sameAs(t, "nothing written", want)
	for range 3 {
		b.write(3, 4, 5)
		b.write(2)
		b.e.Slab().Save(mustLoad(t, b))
		if reflect.DeepEqual(b.e.Runs(), want.free) {
			t.Error("what is written takes no blocks")
		}
		untouched(t, "Abort", b.p, b.e.Abort)
		b.state().sameAs(t, "Abort", want)
		b.whole("Abort")
		untouched(t, "Abort", b.p, b.e.Abort)
		b.state().sameAs(t, "another Abort", want)
	}
	b.p.Fail([]platter.Fault{{Op: platter.Write, At: 2}})
	if _, e := b.tryWrite(1); e != api.ErrIO {
		t.Fatalf("Write = %v", e)
	}
	b.e.Abort()
	b.state().sameAs(t, "a write that failed", want)
	b.commit(nil, 1)
	b.has("after Abort", mapOf(l[1:]))
}

func TestP18_2Get(t *testing.T) {
	for _, sectors := range []int{1, 2, 100, 511, 512} {
		b := made(t, 64, sectors)
		l := b.write(0, sectors-1)
		b.commit(l)
		want := mapOf(l)
		for key := range sectors {
			x, is, e := b.e.Get(key)
			if _, has := want[key]; x != want[key] || is != has || e != api.OK {
				t.Errorf("Get(%d) = %v, %v, %v", key, x, is, e)
			}
		}
		root := b.e.Crown().Root.Kid.At
		for range 2 {
			untouched(t, "Get", b.p, func() {
				for _, key := range append(extremes[:], -1, -2, sectors, sectors+1, 512, 513) {
					if x, is, e := b.e.Get(key); x != (tree.Entry{}) || is || e != api.ErrArg {
						t.Errorf("%d sectors: Get(%d) = %v, %v, %v", sectors, key, x, is, e)
					}
				}
			})
			rot(t, b.p, root)
		}
	}
}

func TestP18_2GetErrors(t *testing.T) {
	b := made(t, 64, 100)
	b.commit(append(b.write(1, 2, 3, 4, 5, 6), b.write(20, 21, 22, 23, 24)...))
	b.commit(nil, 3)
	r := b.e.Crown().Root
	if r.Height == 0 {
		t.Fatal("the tree is a leaf")
	}
	rotten := 0
	for _, u := range b.state().uses {
		rot(t, b.p, u.Run.At)
		for key := range 100 {
			x, is, e := b.e.Get(key)
			y, has, want := tree.Get(b.e.Slab(), r, key)
			if x != y || is != has || e != want {
				t.Errorf("Get(%d) = %v, %v, %v, want %v, %v, %v", key, x, is, e, y, has, want)
			}
			if e == api.ErrSum {
				rotten++
			}
		}
		rot(t, b.p, u.Run.At)
	}
	if rotten < 150 {
		t.Errorf("only %d sectors are lost", rotten)
	}
	b.p.Fail([]platter.Fault{{Op: platter.Read, At: 1}})
	if x, is, e := b.e.Get(1); x != (tree.Entry{}) || is || e != api.ErrIO {
		t.Errorf("Get = %v, %v, %v", x, is, e)
	}
	if x, is, e := b.e.Get(1); x.Key != 1 || !is || e != api.OK {
		t.Errorf("Get = %v, %v, %v", x, is, e)
	}
}

func TestP18_2CrownAndSlab(t *testing.T) {
	b := made(t, 64, 100)
	want, _, e := crown.Choose(blockOf(t, b.p, 0), blockOf(t, b.p, 1))
	if got := b.e.Crown(); e != api.OK || got != want {
		t.Errorf("Crown = %+v, want %+v", got, want)
	}
	s := b.e.Slab()
	l := b.write(1)
	b.e.Commit([]tree.Entry{{Key: -1}}, nil)
	b.e.Abort()
	l = b.write(1)
	b.commit(l)
	if b.e.Slab() != s {
		t.Error("the slab is another one now")
	}
	if x, e := s.Extent(l[0].P, l[0].Gen); e != api.OK || !slices.Equal(x[0], sectorOf(1, 2)) {
		t.Errorf("Extent = %x, %v", x, e)
	}
}

func TestP18_3RunsAndUses(t *testing.T) {
	b := made(t, 64, 100)
	runs := func(what string, want ...api.Run) {
		t.Helper()
		if got := b.e.Runs(); !slices.Equal(got, want) {
			t.Errorf("%s: Runs = %v, want %v", what, got, want)
		}
	}
	uses := func(what string, want ...walk.Use) {
		t.Helper()
		if got, e := b.e.Uses(); e != api.OK || !reflect.DeepEqual(got, want) {
			t.Errorf("%s: Uses = %v, %v, want %v", what, got, e, want)
		}
	}
	node := func(at, n, gen int) walk.Use { return walk.Use{Run: api.Run{At: at, N: n}, Gen: gen, Node: true} }
	leaf := func(at, n, gen int, keys ...int) walk.Use {
		return walk.Use{Run: api.Run{At: at, N: n}, Gen: gen, Sectors: keys}
	}
	runs("mounted", api.Run{At: 3, N: 61})
	uses("mounted", node(2, 1, 1))
	// One sector and its frame's head have three blocks.
	l := b.write(7)
	runs("written", api.Run{At: 6, N: 58})
	uses("written", node(2, 1, 1))
	b.commit(l)
	runs("committed", api.Run{At: 2, N: 1}, api.Run{At: 7, N: 57})
	uses("committed", leaf(3, 3, 2, 7), node(6, 1, 2))
	l = b.write(9, 8)
	runs("written", api.Run{At: 2, N: 1}, api.Run{At: 12, N: 52})
	b.commit(l)
	runs("committed", api.Run{At: 6, N: 1}, api.Run{At: 12, N: 52})
	uses("committed", node(2, 1, 3), leaf(3, 3, 2, 7), leaf(7, 5, 3, 8, 9))
	b.write(5, 6)
	b.e.Abort()
	runs("aborted", api.Run{At: 6, N: 1}, api.Run{At: 12, N: 52})
	b.commit(nil, 7, 8)
	runs("cut", api.Run{At: 2, N: 4}, api.Run{At: 12, N: 52})
	uses("cut", node(6, 1, 4), leaf(7, 5, 3, 9))
}

func TestP18_3UsesErrors(t *testing.T) {
	b := made(t, 64, 100)
	b.commit(append(b.write(1, 2, 3, 4, 5, 6), b.write(20, 21, 22, 23, 24)...))
	want := b.state()
	for _, u := range want.uses {
		rot(t, b.p, u.Run.At)
		l, e := b.e.Uses()
		if u.Node && (len(l) > 0 || e != api.ErrSum) || !u.Node && e != api.OK {
			t.Errorf("%v is rotten: Uses = %v, %v", u, l, e)
		}
		rot(t, b.p, u.Run.At)
	}
	for at := 1; ; at++ {
		b.p.Fail([]platter.Fault{{Op: platter.Read, At: at}})
		l, e := b.e.Uses()
		if e == api.OK {
			break
		}
		if len(l) > 0 || e != api.ErrIO {
			t.Errorf("Read %d fails: Uses = %v, %v", at, l, e)
		}
	}
	b.p.Fail(nil)
	b.state().sameAs(t, "Uses", want)
}

func TestP18_3RunsAndUsesAreNewMemory(t *testing.T) {
	b := made(t, 64, 100)
	b.commit(b.write(1, 2, 3))
	b.commit(b.write(2, 4))
	want := b.state()
	for range 2 {
		l := b.e.Runs()
		clear(l[:cap(l)])
		u, _ := b.e.Uses()
		for _, x := range u {
			clear(x.Sectors[:cap(x.Sectors)])
		}
		clear(u[:cap(u)])
		b.state().sameAs(t, "results cleared", want)
	}
	b.commit(b.write(3))
	b.whole("results cleared")
}

func TestP18_2Nothing(t *testing.T) {
	for _, e := range []*Engine{nil, new(Engine)} {
		e.Abort()
		if c := e.Crown(); c != (crown.Crown{}) {
			t.Errorf("Crown = %v", c)
		}
		if s := e.Slab(); s != nil {
			t.Errorf("Slab = %v", s)
		}
		for _, key := range append(extremes[:], -1, 0, 1) {
			if x, is, err := e.Get(key); x != (tree.Entry{}) || is || err != api.ErrArg {
				t.Errorf("Get = %v, %v, %v", x, is, err)
			}
			if err := e.Commit([]tree.Entry{{Key: key, P: api.Place{At: 2, N: 1}}}, []int{key}); err != api.ErrArg {
				t.Errorf("Commit = %v", err)
			}
		}
		if err := e.Commit(nil, nil); err != api.ErrArg {
			t.Errorf("Commit = %v", err)
		}
		if e.Frozen() {
			t.Error("nothing is frozen")
		}
		if l := e.Runs(); len(l) > 0 {
			t.Errorf("Runs = %v", l)
		}
		if l, err := e.Uses(); len(l) > 0 || err != api.ErrArg {
			t.Errorf("Uses = %v, %v", l, err)
		}
	}
}

// play is a disk and what must be in it.
type play struct {
	bench
	*rand.Rand
	want map[int]tree.Entry
	gen  int
}

func TestP18_3AtRandom(t *testing.T) {
	for seed := range 20 {
		rnd := rand.New(rand.NewSource(int64(seed)))
		p := play{bench: made(t, 64+rnd.Intn(2)*rnd.Intn(300), 100), Rand: rnd, want: map[int]tree.Entry{}, gen: 1}
		for step := range 60 {
			p.step()
			p.has("at random", p.want)
			if c := p.e.Crown(); c.Gen != p.gen {
				t.Fatalf("seed %d: generation %d, want %d", seed, c.Gen, p.gen)
			}
			if step%4 == 0 {
				p.again().state().sameAs(t, "at random", p.state())
			}
			if t.Failed() {
				t.Fatalf("seed %d", seed)
			}
		}
	}
}

func (p *play) step() {
	var put []tree.Entry
	for range p.Intn(4) {
		if l, e := p.tryWrite(p.keys(1 + p.Intn(8))...); e == api.OK {
			put = append(put, l...)
		}
	}
	cut := p.keys(p.Intn(30) * p.Intn(2))
	switch p.Intn(10) {
	case 0:
		p.e.Abort()
		return
	case 1:
		p.e.Abort()
		p.bench = mounted(p.t, p.p)
		return
	case 2, 3:
		p.p.Fail([]platter.Fault{{Op: 1 + p.Intn(3), At: 1 + p.Intn(1+p.Intn(20))}})
	}
	p.next(put, cut)
	p.p.Fail(nil)
	if p.e.Frozen() {
		p.has("frozen", p.want)
		p.bench = mounted(p.t, p.p)
	}
}

// next commits, and notes what there is then.
func (p *play) next(put []tree.Entry, cut []int) {
	e := p.e.Commit(put, cut)
	if e != api.OK && e != api.ErrIO && e != api.ErrFull {
		p.t.Errorf("Commit(%v, %v) = %v", put, cut, e)
	}
	if e != api.OK && !p.e.Frozen() {
		return
	}
	for _, key := range cut {
		delete(p.want, key)
	}
	maps.Copy(p.want, mapOf(put))
	p.gen++
}

func (p *play) keys(n int) []int {
	var l []int
	for range n {
		l = append(l, p.Intn(100))
	}
	return l
}
