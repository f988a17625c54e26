package device

import (
	"maps"
	"slices"
	"testing"

	"concertina/api"
	"concertina/buffer"
)

// plain is a device as the chapter tells it, on a platter that has room for
// everything and never fails.
type plain struct {
	sectors int
	// kept is what is committed, pending what is not: a nil is a trim.
	kept, pending map[int][]byte
	// commits is how many commits there were.
	commits int
}

func plainNew(sectors int) *plain {
	return &plain{sectors: sectors, kept: map[int][]byte{}, pending: map[int][]byte{}}
}

// clone shares the bytes of sectors, which do not change.
func (p *plain) clone() *plain {
	return &plain{sectors: p.sectors, kept: maps.Clone(p.kept), pending: maps.Clone(p.pending), commits: p.commits}
}

func (p *plain) flush() {
	if len(p.pending) == 0 {
		return
	}
	for sector, data := range p.pending {
		if data == nil {
			delete(p.kept, sector)
		} else {
			p.kept[sector] = data
		}
	}
	p.pending = map[int][]byte{}
	p.commits++
}

// crowded tells whether more than 64 sectors would be pending, if those from
// from on were too.
func (p *plain) crowded(from, n int) bool {
	count := len(p.pending)
	for i := range n {
		if _, ok := p.pending[from+i]; !ok {
			count++
		}
	}
	return count > 64
}

func (p *plain) write(sector int, b []byte) {
	p.writeUntil(sector, b, 1000)
}

// writeUntil is a write whose commit fails if there have been so many already.
func (p *plain) writeUntil(sector int, b []byte, commits int) {
	if p.crowded(sector, 1) {
		if p.commits == commits {
			return
		}
		p.flush()
	}
	p.pending[sector] = slices.Clone(b)
}

func (p *plain) trim(from, n int) {
	p.trimUntil(from, n, 1000)
}

// trimUntil is a trim of which a commit fails if there have been so many already.
func (p *plain) trimUntil(from, n, commits int) {
	for n > 0 {
		part := n
		if part > 64 {
			part = 64
		}
		if p.crowded(from, part) {
			if p.commits == commits {
				return
			}
			p.flush()
		}
		for i := range part {
			p.pending[from+i] = nil
		}
		from += part
		n -= part
	}
}

// reads is what is to be read of each sector.
func (p *plain) reads() []string {
	var l []string
	for sector := range p.sectors {
		data, ok := p.pending[sector]
		if !ok {
			data = p.kept[sector]
		}
		if data == nil {
			data = make([]byte, 128)
		}
		l = append(l, string(data))
	}
	return l
}

// list is what is pending, in ascending order.
func (p *plain) list() []buffer.Item {
	var l []buffer.Item
	for sector := range p.sectors {
		if data, ok := p.pending[sector]; ok {
			l = append(l, buffer.Item{Sector: sector, Data: data})
		}
	}
	return l
}

func sameItem(x, y buffer.Item) bool {
	return x.Sector == y.Sector && (x.Data == nil) == (y.Data == nil) && slices.Equal(x.Data, y.Data)
}

// like wants that the device is as in the model, which has begun with gen
// commits less.
func (b bench) like(what string, p *plain, gen int) {
	b.t.Helper()
	if got, want := b.d.pending.List(), p.list(); !slices.EqualFunc(got, want, sameItem) {
		b.t.Errorf("%s: pending is\n%v, want\n%v", what, got, want)
	}
	if got := b.d.Pending(); got != len(p.pending) {
		b.t.Errorf("%s: Pending = %d, want %d", what, got, len(p.pending))
	}
	if got, want := b.d.Engine().Crown().Gen, p.commits+gen; got != want {
		b.t.Errorf("%s: the generation is %d, want %d", what, got, want)
	}
	b.readsAs(what, p.reads())
	for sector := range p.sectors {
		_, want := p.kept[sector]
		if _, got, err := b.d.Engine().Get(sector); got != want || err != api.OK {
			b.t.Errorf("%s: Get(%d) = %v, %v, want %v", what, sector, got, err, want)
		}
	}
	b.whole(what)
}

// pair is a device and its model, a new one each.
func pair(t *testing.T, blocks, sectors int) (bench, *plain) {
	t.Helper()
	return made(t, blocks, sectors), plainNew(sectors)
}

// mustWrite writes to both.
func mustWrite(b bench, p *plain, n int, sectors ...int) {
	b.t.Helper()
	b.write(n, sectors...)
	for _, sector := range sectors {
		p.write(sector, noise(sector, n))
	}
}

// mustTrim trims both.
func mustTrim(b bench, p *plain, from, n int) {
	b.t.Helper()
	b.trim(from, n)
	p.trim(from, n)
}
