package device

import (
	"bytes"
	"fmt"
	"slices"
	"testing"

	"concertina/api"
	"concertina/platter"
)

func TestP20_1Write(t *testing.T) {
	b, p := pair(t, 200, 100)
	b.untouched("Write", func() {
		for i, sector := range []int{0, 99, 50, 50, 0, 1} {
			mustWrite(b, p, i, sector)
			if got := b.d.Pending(); got != len(p.pending) {
				t.Errorf("Pending = %d after Write(%d)", got, sector)
			}
		}
	})
	b.like("pending", p, 1)
	b.flush()
	p.flush()
	b.like("committed", p, 1)
	mustWrite(b, p, 9, 50, 51)
	mustTrim(b, p, 0, 2)
	mustWrite(b, p, 9, 1)
	b.like("pending again", p, 1)
	// What is pending is lost with the device.
	m := b.again()
	p.pending = map[int][]byte{}
	m.like("mounted", p, 1)
}

// refuses wants that a call returns an error and does nothing.
func (b bench) refuses(what string, want api.Errno, call func() api.Errno) {
	b.t.Helper()
	b.untouched(what, func() {
		pending := b.d.pending.List()
		if err := call(); err != want {
			b.t.Errorf("%s = %v, want %v", what, err, want)
		}
		if !slices.EqualFunc(b.d.pending.List(), pending, sameItem) {
			b.t.Errorf("%s has changed what is pending", what)
		}
	})
}

// wrongWrites calls f with writes that are ErrArg.
func wrongWrites(sectors int, f func(sector int, data []byte)) {
	for _, sector := range append(extremes[:], -2, -1, sectors, sectors+1, 512, 513) {
		f(sector, flat(1))
		f(sector, nil)
	}
	for _, n := range []int{0, 1, 64, 127, 129, 256, 1024} {
		f(0, make([]byte, n))
		f(sectors-1, make([]byte, n, n+256))
	}
	f(0, nil)
}

func TestP20_1WriteErrArg(t *testing.T) {
	for _, sectors := range []int{1, 40, 511, 512} {
		b := made(t, 200, sectors)
		refuse := func() {
			wrongWrites(sectors, func(sector int, data []byte) {
				b.refuses(fmt.Sprintf("Write(%d) of %d bytes", sector, len(data)), api.ErrArg, func() api.Errno { return b.d.Write(sector, data) })
			})
		}
		refuse()
		b.write(1, sectors-1)
		refuse()
		// A full buffer makes no difference.
		b.write(2, numbers(0, min(64, sectors))...)
		refuse()
		b.freeze()
		refuse()
	}
}

func TestP20_1WriteErrState(t *testing.T) {
	b := made(t, 64, 100)
	b.write(1, 1, 2)
	b.flush()
	b.write(2, 2, 3)
	before := b.d.pending.List()
	b.freeze()
	for _, sector := range []int{0, 1, 2, 3, 99} {
		b.refuses("Write", api.ErrState, func() api.Errno { return b.d.Write(sector, flat(1)) })
	}
	if got := b.d.pending.List(); !slices.EqualFunc(got, before, sameItem) {
		t.Errorf("pending is %v, want %v", got, before)
	}
	m := mounted(t, b.p)
	m.write(3, 0, 1, 2, 3, 99)
	m.flush()
}

// full is a disk on which 64 sectors are pending, some of them trims.
func full(t *testing.T) (bench, *plain) {
	t.Helper()
	b, p := pair(t, 400, 200)
	mustWrite(b, p, 1, numbers(50, 60)...)
	b.flush()
	p.flush()
	mustWrite(b, p, 2, numbers(60, 40)...)
	mustTrim(b, p, 80, 10)
	mustTrim(b, p, 100, 24)
	if b.d.Pending() != 64 {
		t.Fatalf("%d are pending", b.d.Pending())
	}
	return b, p
}

func TestP20_1WriteToAFullBuffer(t *testing.T) {
	b, p := full(t)
	b.untouched("Write", func() {
		for sector := 60; sector < 124; sector++ {
			mustWrite(b, p, 3, sector)
		}
	})
	b.like("pending already", p, 1)
	for i, sector := range []int{0, 124, 59, 199} {
		b, p := full(t)
		syncs := b.p.Count(platter.Sync)
		mustWrite(b, p, 4, sector)
		if got := b.p.Count(platter.Sync) - syncs; got != 2 || b.d.Pending() != 1 || b.d.Engine().Crown().Gen != 3 {
			t.Errorf("%d: %d syncs, %d are pending, the crown is %+v", i, got, b.d.Pending(), b.d.Engine().Crown())
		}
		b.like("not pending yet", p, 1)
		p.pending = map[int][]byte{}
		b.again().like("mounted", p, 1)
	}
	// The last sector that fits, and the first that does not.
	b, p = pair(t, 200, 100)
	for sector := range 100 {
		mustWrite(b, p, 5, sector)
		want := 1 + sector/64
		if gen := b.d.Engine().Crown().Gen; gen != want {
			t.Errorf("the generation is %d after %d sectors", gen, sector+1)
		}
	}
	b.like("all written", p, 1)
}

// The Flush that Write needs fails at each operation.
func TestP20_1WriteFails(t *testing.T) {
	failed, frozen := 0, 0
	ready := func() bench {
		b, _ := full(t)
		return b
	}
	fails(t, ready, func(what string, b bench, x platter.Fault) bool {
		_, p := full(t)
		err := b.d.Write(150, noise(150, 5))
		b.p.Fail(nil)
		if err == api.OK {
			p.write(150, noise(150, 5))
			b.like(what, p, 1)
			return false
		}
		failed++
		if err != api.ErrIO || b.d.Frozen() != (x == platter.Fault{Op: platter.Sync, At: 2}) {
			t.Errorf("%s: Write = %v, Frozen = %v", what, err, b.d.Frozen())
		}
		if b.d.Frozen() {
			frozen++
			p.flush()
		}
		b.like(what, p, 1)
		b.readIs(what, 150, make([]byte, api.Sector), api.OK)
		if !b.d.Frozen() {
			mustWrite(b, p, 5, 150)
			b.like(what, p, 1)
		}
		return true
	})
	if failed < 20 || frozen != 1 {
		t.Errorf("Write has failed %d times, frozen were %d", failed, frozen)
	}
}

func TestP20_1WriteIsErrFull(t *testing.T) {
	b, p := pair(t, 64, 512)
	refused := 0
	for sector := range 300 {
		want := b.state()
		err := b.d.Write(sector, noise(sector, 1))
		if err == api.OK {
			p.write(sector, noise(sector, 1))
			continue
		}
		refused++
		if err != api.ErrFull || b.d.Pending() != 64 {
			t.Fatalf("Write(%d) = %v, %d are pending", sector, err, b.d.Pending())
		}
		b.is("full", want)
	}
	if refused < 200 {
		t.Errorf("only %d writes were refused", refused)
	}
	b.like("full", p, 1)
	// Trims make room.
	mustTrim(b, p, p.list()[0].Sector, 60)
	b.flush()
	p.flush()
	b.like("trimmed", p, 1)
	mustWrite(b, p, 2, 300, 301)
	b.flush()
	p.flush()
	b.like("goes on", p, 1)
}

func TestP20_1WriteKeepsNoArgument(t *testing.T) {
	b, p := pair(t, 200, 100)
	room := bytes.Repeat(noise(5, 1), 3)
	kept := slices.Clone(room)
	data := room[api.Sector : 2*api.Sector]
	for sector := range 70 {
		p.write(sector, data)
		if err := b.d.Write(sector, data); err != api.OK {
			t.Fatal(err)
		}
	}
	b.d.Write(0, room[:api.Sector-1])
	b.d.Write(100, data)
	b.flush()
	p.flush()
	if !bytes.Equal(room, kept) {
		t.Error("the argument has changed")
	}
	b.d.Write(3, data)
	p.write(3, data)
	for i := range room {
		room[i] ^= 0xff
	}
	b.like("the argument changes later", p, 1)
}

func TestP20_1ReadIsNewMemory(t *testing.T) {
	b := made(t, 200, 100)
	b.write(1, 1, 2, 3)
	b.flush()
	b.write(2, 4)
	b.trim(2, 1)
	want := b.reads()
	for sector := range 6 {
		one, _ := b.d.Read(sector)
		two, _ := b.d.Read(sector)
		one = one[:cap(one)]
		for i := range one {
			one[i] ^= 0xff
		}
		if string(two) != want[sector] {
			t.Errorf("two results of Read(%d) share memory", sector)
		}
	}
	b.readsAs("a result has changed", want)
	kept, _ := b.d.Read(4)
	b.write(3, 4)
	b.flush()
	b.trim(4, 1)
	if string(kept) != want[4] {
		t.Error("a result changes later")
	}
}
