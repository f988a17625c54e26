package buffer

import (
	"bytes"
	"math"
	"math/rand"
	"slices"
	"testing"

	"concertina/api"
)

// plain is a buffer as the chapter tells it: its items in any order, of which no
// two are for one sector.
type plain struct {
	most  int
	items []Item
}

func plainNew(most int) *plain {
	if most < 0 {
		most = 0
	}
	if most > 512 {
		most = 512
	}
	return &plain{most: most}
}

func (p *plain) clone() *plain {
	return &plain{most: p.most, items: slices.Clone(p.items)}
}

func (p *plain) find(sector int) int {
	return slices.IndexFunc(p.items, func(x Item) bool { return x.Sector == sector })
}

// set makes x pending, whatever the capacity.
func (p *plain) set(x Item) {
	if i := p.find(x.Sector); i >= 0 {
		p.items = slices.Delete(slices.Clone(p.items), i, i+1)
	}
	p.items = append(slices.Clone(p.items), x)
}

func (p *plain) put(sector int, data []byte) bool {
	full := len(p.items) == p.most
	if len(data) != 128 || sector < 0 || p.find(sector) < 0 && full {
		return false
	}
	p.set(Item{sector, slices.Clone(data)})
	return true
}

func (p *plain) trim(from, n int) bool {
	if n < 0 || from < 0 || from > 512 || n > 512 || from+n > 512 {
		return false
	}
	after := p.clone()
	for i := range n {
		after.set(Item{from + i, nil})
	}
	if len(after.items) > p.most {
		return false
	}
	p.items = after.items
	return true
}

func (p *plain) fits(sectors []int) bool {
	after := p.clone()
	for _, sector := range sectors {
		if after.find(sector) < 0 {
			after.set(Item{sector, nil})
		}
	}
	return len(after.items) <= p.most
}

// list is the items in ascending order.
func (p *plain) list() []Item {
	l := slices.Clone(p.items)
	slices.SortFunc(l, func(x, y Item) int { return x.Sector - y.Sector })
	return l
}

// extremes is numbers that are far beyond all sectors.
var extremes = [...]int{math.MinInt, math.MinInt + 1, math.MaxInt - 1, math.MaxInt, 1 << 62, -1 << 62, 1 << 31, 1 << 32, -1 << 31, -1 << 32}

// edges is numbers at the limits that the chapter names.
var edges = [...]int{-2, -1, 0, 1, 2, 3, 510, 511, 512, 513, 514, 1024}

// sector is the bytes of a sector, which begin with x and are not all equal.
func sector(x byte) []byte {
	b := make([]byte, api.Sector)
	for i := range b {
		b[i] = x + byte(i*i)
	}
	return b
}

// equal tells whether two items are equal, where no bytes are not nil.
func equal(x, y Item) bool {
	return x.Sector == y.Sector && (x.Data == nil) == (y.Data == nil) && bytes.Equal(x.Data, y.Data)
}

// mustBe wants that all that can be read from b is as in p.
func mustBe(t *testing.T, b *Buffer, p *plain) {
	t.Helper()
	want := p.list()
	if got := b.List(); !slices.EqualFunc(got, want, equal) {
		t.Fatalf("List = %v, want %v", got, want)
	}
	if got := b.Len(); got != len(want) {
		t.Fatalf("Len = %d, want %d", got, len(want))
	}
	for _, x := range want {
		data, ok := b.Get(x.Sector)
		if !ok || !equal(Item{x.Sector, data}, x) {
			t.Fatalf("Get(%d) = %v, %v, want %v, true", x.Sector, data, ok, x.Data)
		}
		// Between two pending sectors, there is nothing.
		mustGet(t, b, p, x.Sector-1)
		mustGet(t, b, p, x.Sector+1)
	}
}

func mustGet(t *testing.T, b *Buffer, p *plain, sector int) {
	t.Helper()
	data, ok := b.Get(sector)
	if i := p.find(sector); i >= 0 {
		if !ok || !equal(Item{sector, data}, p.items[i]) {
			t.Fatalf("Get(%d) = %v, %v, want %v, true", sector, data, ok, p.items[i].Data)
		}
	} else if ok || data != nil {
		t.Fatalf("Get(%d) = %v, %v, want nil, false", sector, data, ok)
	}
}

func mustPut(t *testing.T, b *Buffer, p *plain, sector int, data []byte) bool {
	t.Helper()
	ok := b.Put(sector, data)
	if want := p.put(sector, data); ok != want {
		t.Fatalf("Put(%d, %d bytes) = %v, want %v: %d of %d", sector, len(data), ok, want, b.Len(), p.most)
	}
	mustBe(t, b, p)
	return ok
}

func mustTrim(t *testing.T, b *Buffer, p *plain, from, n int) bool {
	t.Helper()
	ok := b.Trim(from, n)
	if want := p.trim(from, n); ok != want {
		t.Fatalf("Trim(%d, %d) = %v, want %v: %d of %d", from, n, ok, want, b.Len(), p.most)
	}
	mustBe(t, b, p)
	return ok
}

func mustFit(t *testing.T, b *Buffer, p *plain, sectors ...int) bool {
	t.Helper()
	ok := b.Fits(sectors)
	if want := p.fits(sectors); ok != want {
		t.Fatalf("Fits(%v) = %v, want %v: %v of %d", sectors, ok, want, b.List(), p.most)
	}
	mustBe(t, b, p)
	return ok
}

func mustClear(t *testing.T, b *Buffer, p *plain) {
	t.Helper()
	b.Clear()
	p.items = nil
	mustBe(t, b, p)
}

// made is a buffer in which the sectors from 0 on are as show tells: '.' if
// nothing is pending, '-' if the sector is trimmed, and else what is written.
func made(t *testing.T, most int, show string) (*Buffer, *plain) {
	t.Helper()
	b, p := New(most), plainNew(most)
	for i, x := range []byte(show) {
		ok := true
		switch x {
		case '.':
		case '-':
			ok = b.Trim(i, 1)
			p.set(Item{i, nil})
		default:
			ok = b.Put(i, sector(x))
			p.set(Item{i, sector(x)})
		}
		if !ok {
			t.Fatalf("%s: sector %d does not fit into %d", show, i, most)
		}
	}
	mustBe(t, b, p)
	return b, p
}

// step makes a call with both buffers, at one of the sectors from -1 to sectors.
func step(t *testing.T, rnd *rand.Rand, b *Buffer, p *plain, sectors int) bool {
	t.Helper()
	at := rnd.Intn(sectors+2) - 1
	switch rnd.Intn(8) {
	case 0, 1, 2:
		data := make([]byte, api.Sector)
		rnd.Read(data)
		if rnd.Intn(10) == 0 {
			data = data[:rnd.Intn(api.Sector)]
		}
		return mustPut(t, b, p, at, data)
	case 3, 4:
		return mustTrim(t, b, p, at, rnd.Intn(6)-1)
	case 5:
		return mustTrim(t, b, p, api.MaxSectors+1-rnd.Intn(6), rnd.Intn(6))
	case 6:
		l := make([]int, rnd.Intn(8))
		for i := range l {
			l[i] = rnd.Intn(sectors+2) - 1
		}
		return mustFit(t, b, p, l...)
	default:
		if rnd.Intn(10) == 0 {
			mustClear(t, b, p)
		}
		mustGet(t, b, p, at)
		return true
	}
}
