package buffer

import (
	"bytes"
	"math/rand"
	"slices"
	"testing"

	"concertina/api"
)

// spoil overwrites a slice and its spare capacity.
func spoil(b []byte) {
	b = b[:cap(b)]
	for i := range b {
		b[i] ^= 0xff
	}
}

func TestP19_1PutKeepsNoArgument(t *testing.T) {
	b, p := New(8), plainNew(8)
	data := append(make([]byte, 0, 1000), sector(1)...)
	mustPut(t, b, p, 3, data)
	spoil(data)
	mustBe(t, b, p)
	mustPut(t, b, p, 4, data)
	spoil(data)
	mustBe(t, b, p)
}

func TestP19_1ArgumentsStay(t *testing.T) {
	b, p := made(t, 4, "a-")
	// What lies behind the argument in its memory is not touched either.
	data := bytes.Repeat(sector(1), 3)
	kept := slices.Clone(data)
	mustPut(t, b, p, 2, data[api.Sector:2*api.Sector])
	mustPut(t, b, p, 2, data[1:api.Sector])
	mustTrim(t, b, p, 2, 1)
	b.Clear()
	if !bytes.Equal(data, kept) {
		t.Error("Put's argument has changed")
	}
	sectors := []int{9, 3, 3, -1, 0, 9, 1, 7, 7}
	known := slices.Clone(sectors)
	for n := range len(sectors) + 1 {
		b.Fits(sectors[:n])
	}
	if !slices.Equal(sectors, known) {
		t.Errorf("Fits' argument is now %v", sectors)
	}
}

func TestP19_1GetIsNewMemory(t *testing.T) {
	b, p := made(t, 4, "a-b")
	for i := range 4 {
		one, _ := b.Get(i)
		two, _ := b.Get(i)
		kept := slices.Clone(two)
		spoil(one)
		mustBe(t, b, p)
		if !bytes.Equal(two, kept) {
			t.Errorf("two results of Get(%d) share memory", i)
		}
		mustPut(t, b, p, i, sector(9))
		if !bytes.Equal(two, kept) {
			t.Errorf("a result of Get(%d) changes later", i)
		}
	}
}

func TestP19_1ListIsNewMemory(t *testing.T) {
	b, p := made(t, 8, "a-bbc-")
	one, two := b.List(), b.List()
	kept := p.list()
	for i := range one {
		spoil(one[i].Data)
		// The items of one list share no memory with each other either.
		for j := i + 1; j < len(one); j++ {
			if !equal(one[j], kept[j]) {
				t.Errorf("items %d and %d share memory", i, j)
			}
		}
	}
	one = one[:cap(one)]
	for i := range one {
		one[i] = Item{7, []byte{7}}
	}
	mustBe(t, b, p)
	for i := range 6 {
		mustPut(t, b, p, i, sector(9))
	}
	mustTrim(t, b, p, 0, 6)
	mustClear(t, b, p)
	if !slices.EqualFunc(two, kept, equal) {
		t.Error("a list changes when another does, or later")
	}
}

// states calls f with buffers of that capacity in which each of n sectors is
// written, trimmed or not pending.
func states(most, n int, f func(show string)) {
	show := make([]byte, n)
	var each func(i int)
	each = func(i int) {
		if i == n {
			if n-bytes.Count(show, []byte{'.'}) <= most {
				f(string(show))
			}
			return
		}
		for _, x := range []byte(".-a") {
			show[i] = x
			each(i + 1)
		}
	}
	each(0)
}

func TestP19_1EveryCallInEveryState(t *testing.T) {
	for most := range 5 {
		states(most, 4, func(show string) {
			for from := -1; from <= 5; from++ {
				b, p := made(t, most, show)
				mustPut(t, b, p, from, sector(5))
				for n := -1; n <= 6; n++ {
					b, p := made(t, most, show)
					mustTrim(t, b, p, from, n)
				}
			}
			b, p := made(t, most, show)
			for x := range 6 * 6 * 6 {
				l := []int{x%6 - 1, x/6%6 - 1, x/36 - 1}
				if got, want := b.Fits(l), p.fits(l); got != want {
					t.Errorf("%s of %d: Fits(%v) = %v", show, most, l, got)
				}
			}
			mustBe(t, b, p)
			mustClear(t, b, p)
		})
	}
}

func TestP19_1AgainstPlain(t *testing.T) {
	for _, x := range []struct{ most, sectors, steps int }{
		{4, 6, 20000}, {10, 20, 20000}, {64, 100, 10000}, {512, 520, 2000},
	} {
		rnd := rand.New(rand.NewSource(int64(x.most)))
		b, p := New(x.most), plainNew(x.most)
		done := 0
		for range x.steps {
			if step(t, rnd, b, p, x.sectors) {
				done++
			}
		}
		if done < x.steps/10 || done > x.steps*95/100 {
			t.Errorf("%d sectors: %d of %d calls had a result", x.most, done, x.steps)
		}
	}
}

func TestP19_1BuffersAreIndependent(t *testing.T) {
	rnd := rand.New(rand.NewSource(2))
	b, p := New(5), plainNew(5)
	c, q := New(7), plainNew(7)
	for range 500 {
		step(t, rnd, b, p, 9)
		mustBe(t, c, q)
		step(t, rnd, c, q, 9)
		mustBe(t, b, p)
	}
}

func TestP19_1IsTheSameEachTime(t *testing.T) {
	play := func() []Item {
		rnd := rand.New(rand.NewSource(3))
		b, p := New(30), plainNew(30)
		for range 300 {
			step(t, rnd, b, p, 50)
		}
		return b.List()
	}
	if one, two := play(), play(); !slices.EqualFunc(one, two, equal) {
		t.Errorf("%v, then %v", one, two)
	}
}

func TestP19_1Nil(t *testing.T) {
	var b *Buffer
	b.Clear()
	for _, x := range slices.Concat(extremes[:], edges[:]) {
		if b.Put(x, sector(1)) || b.Put(x, nil) || b.Trim(x, 0) || b.Trim(0, x) || b.Fits([]int{x}) {
			t.Errorf("a call with %d is true", x)
		}
		if data, ok := b.Get(x); data != nil || ok {
			t.Errorf("Get(%d) = %v, %v", x, data, ok)
		}
	}
	if b.Fits(nil) || b.Fits([]int{}) || b.Len() != 0 || b.List() != nil {
		t.Error("there is something in it")
	}
}

func TestP19_1BufferThatNewHasNotMade(t *testing.T) {
	b, p := &Buffer{}, plainNew(0)
	for _, x := range edges {
		mustPut(t, b, p, x, sector(1))
		mustTrim(t, b, p, x, 0)
		mustTrim(t, b, p, 0, x)
		mustFit(t, b, p, x)
		mustGet(t, b, p, x)
	}
	mustFit(t, b, p)
	mustClear(t, b, p)
}
