package device

import (
	"math"
	"reflect"
	"testing"

	"concertina/api"
	"concertina/commit"
	"concertina/crown"
	"concertina/platter"
)

// formatsAs wants that Format does with a platter what commit.Format does.
func formatsAs(t *testing.T, p *platter.Platter, sectors int, x float64) api.Errno {
	t.Helper()
	q := p.Copy()
	got, want := Format(p, sectors, x), commit.Format(q, sectors, x)
	if got != want || !reflect.DeepEqual(p, q) {
		t.Errorf("Format(%d, %v) = %v, want %v", sectors, x, got, want)
	}
	return got
}

func TestP20_1Format(t *testing.T) {
	for _, blocks := range []int{api.MinBlocks, 100, api.MaxBlocks} {
		for _, sectors := range []int{1, 2, 100, 511, 512} {
			p := newPlatter(t, blocks)
			if err := formatsAs(t, p, sectors, 0.5); err != api.OK {
				t.Errorf("Format(%d): %v", sectors, err)
			}
			b := mounted(t, p)
			c := b.d.Engine().Crown()
			if c.Sectors != sectors || c.Blocks != blocks || c.Gen != 1 || c.Gain != 0.5 {
				t.Errorf("the crown is %+v", c)
			}
			b.like("a new disk", plainNew(sectors), 1)
		}
	}
	for _, x := range []float64{math.NaN(), math.Inf(-1), -1, math.Copysign(0, -1), 0, 0.25, 1, 1.5, math.Inf(1)} {
		if err := formatsAs(t, newPlatter(t, 64), 10, x); err != api.OK {
			t.Errorf("Format with %v: %v", x, err)
		}
	}
	// What was there before is gone.
	b := made(t, 64, 100)
	b.write(1, 3, 4)
	b.flush()
	formatsAs(t, b.p, 50, 1)
	mounted(t, b.p).like("formatted again", plainNew(50), 1)
}

func TestP20_1FormatErrors(t *testing.T) {
	b := made(t, 64, 100)
	b.untouched("Format", func() {
		for _, sectors := range append(extremes[:], -1, 0, 513, 514) {
			if err := Format(b.p, sectors, 1); err != api.ErrArg {
				t.Errorf("Format(%d) = %v", sectors, err)
			}
		}
		for _, sectors := range []int{-1, 0, 1, 512, 513} {
			if err := Format(nil, sectors, 1); err != api.ErrArg {
				t.Errorf("Format(nil, %d) = %v", sectors, err)
			}
		}
	})
	ready := func() bench { return bench{t: t, p: newPlatter(t, 64)} }
	fails(t, ready, func(what string, b bench, x platter.Fault) bool {
		err := formatsAs(t, b.p, 100, 1)
		if x.At == 1 && x.Op != platter.Read && err != api.ErrIO {
			t.Errorf("%s: Format = %v", what, err)
		}
		return err != api.OK
	})
}

// mountsAs wants that Mount does with a platter what commit.Mount does.
func mountsAs(t *testing.T, what string, p *platter.Platter) (*Device, api.Errno) {
	t.Helper()
	q := p.Copy()
	d, got := Mount(p)
	e, want := commit.Mount(q)
	if got != want || !reflect.DeepEqual(p, q) || (d == nil) != (got != api.OK) {
		t.Errorf("%s: Mount = %v, %v, want %v", what, d, got, want)
	}
	if d != nil && !reflect.DeepEqual(d.Engine(), e) {
		t.Errorf("%s: the engine is\n%+v, want\n%+v", what, d.Engine(), e)
	}
	return d, got
}

func TestP20_1Mount(t *testing.T) {
	b, p := pair(t, 200, 100)
	mountsAs(t, "a new disk", b.p)
	mustWrite(b, p, 1, numbers(20, 50)...)
	mustTrim(b, p, 30, 5)
	mountsAs(t, "nothing is committed", b.p)
	b.flush()
	p.flush()
	mountsAs(t, "committed", b.p)
	// What is pending belongs to a device, not to the platter.
	mustWrite(b, p, 2, 1, 2, 3)
	if got, err := mountsAs(t, "mounted twice", b.p); err != api.OK || got.Pending() != 0 {
		t.Errorf("Mount: %v, %d are pending", err, got.Pending())
	}
	p.pending = map[int][]byte{}
	b.again().like("mounted", p, 1)
	// What is cached belongs to the platter.
	root := b.d.Engine().Crown().Root.Kid.At
	data, _ := b.p.Read(root)
	b.p.Write(root, make([]byte, api.Block))
	b.p.Write(root, data)
	if got, err := mountsAs(t, "cached", b.p); err != api.OK || got == nil || b.p.Cached() != 0 {
		t.Errorf("Mount: %v, %d are cached", err, b.p.Cached())
	}
}

func TestP20_1MountErrors(t *testing.T) {
	if d, err := Mount(nil); d != nil || err != api.ErrArg {
		t.Errorf("Mount(nil) = %v, %v", d, err)
	}
	wants := func(what string, p *platter.Platter, want api.Errno) {
		t.Helper()
		if _, err := mountsAs(t, what, p); err != want {
			t.Errorf("%s: Mount = %v, want %v", what, err, want)
		}
	}
	wants("never formatted", newPlatter(t, 64), api.ErrNone)
	ready := func() bench {
		b := made(t, 100, 100)
		b.write(1, numbers(10, 30)...)
		b.flush()
		return b
	}
	b := ready()
	b.rot(0)
	wants("a rotten crown", b.p, api.ErrSum)
	b = ready()
	b.rot(b.d.Engine().Crown().Root.Kid.At)
	wants("a rotten root", b.p, api.ErrSum)
	b = ready()
	c := b.d.Engine().Crown()
	b.setCrown(1, c)
	wants("one crown twice", b.p, api.ErrForm)
	b = ready()
	c.Blocks--
	b.setCrown(0, c)
	wants("another platter", b.p, api.ErrForm)
	failed := 0
	fails(t, ready, func(what string, b bench, x platter.Fault) bool {
		d, err := mountsAs(t, what, b.p)
		if err != api.OK && err != api.ErrIO {
			t.Errorf("%s: Mount = %v, %v", what, d, err)
		}
		if err != api.OK {
			failed++
		}
		return err != api.OK
	})
	if failed < 5 {
		t.Errorf("Mount has failed only %d times", failed)
	}
}

func TestP20_1Pending(t *testing.T) {
	b := made(t, 200, 512)
	is := func(want int) {
		t.Helper()
		if got := b.d.Pending(); got != want {
			t.Errorf("Pending = %d, want %d", got, want)
		}
	}
	is(0)
	b.write(1, 0, 511, 7)
	is(3)
	b.write(2, 7)
	is(3)
	b.trim(7, 3)
	is(5)
	b.write(3, 8)
	is(5)
	b.d.Read(7)
	b.d.Write(512, flat(1))
	b.d.Trim(511, 2)
	b.trim(100, 0)
	is(5)
	b.trim(100, 59)
	is(64)
	b.flush()
	is(0)
	b.write(1, 0)
	is(1)
	if d := b.again().d; d.Pending() != 0 {
		t.Errorf("Pending = %d after Mount", d.Pending())
	}
}

func TestP20_1Sectors(t *testing.T) {
	for _, sectors := range []int{1, 2, 40, 511, 512} {
		b := made(t, 64, sectors)
		for range 3 {
			if got := b.d.Sectors(); got != sectors {
				t.Errorf("Sectors = %d, want %d", got, sectors)
			}
			b.write(1, 0)
			b.flush()
			b = b.again()
		}
	}
}

func TestP20_1Frozen(t *testing.T) {
	b := made(t, 64, 100)
	is := func(what string, want bool) {
		t.Helper()
		if got := b.d.Frozen(); got != want || b.d.Engine().Frozen() != want {
			t.Errorf("%s: Frozen = %v", what, got)
		}
	}
	is("a new disk", false)
	b.write(1, 1, 2)
	b.p.Fail([]platter.Fault{{Op: platter.Sync, At: 1}})
	b.d.Flush()
	is("a flush that failed", false)
	b.flush()
	is("a flush", false)
	b.freeze()
	is("a commit whose last sync failed", true)
	b = mounted(t, b.p)
	is("mounted", false)
}

func TestP20_1Engine(t *testing.T) {
	b := made(t, 64, 100)
	e := b.d.Engine()
	if e == nil {
		t.Fatal("there is none")
	}
	b.write(1, 1, 2)
	b.flush()
	b.write(1, 3)
	if b.d.Engine() != e {
		t.Error("the engine is another one now")
	}
	if x, ok, err := e.Get(2); !ok || err != api.OK || x.Gen != 2 || e.Crown().Gen != 2 {
		t.Errorf("Get = %+v, %v, %v, the crown is %+v", x, ok, err, e.Crown())
	}
	// What it commits is what the device reads.
	if err := e.Commit(nil, []int{2}); err != api.OK {
		t.Fatal(err)
	}
	p := plainNew(100)
	p.write(1, noise(1, 1))
	p.flush()
	p.write(3, noise(3, 1))
	b.like("cut by the engine", p, 2)
}

func TestP20_1Nil(t *testing.T) {
	var d *Device
	for _, x := range append(extremes[:], -1, 0, 1, 511, 512) {
		if b, err := d.Read(x); b != nil || err != api.ErrArg {
			t.Errorf("Read(%d) = %v, %v", x, b, err)
		}
		if err := d.Write(x, flat(1)); err != api.ErrArg {
			t.Errorf("Write(%d) = %v", x, err)
		}
		if err := d.Trim(x, 0); err != api.ErrArg {
			t.Errorf("Trim(%d, 0) = %v", x, err)
		}
		if err := d.Trim(0, x); err != api.ErrArg {
			t.Errorf("Trim(0, %d) = %v", x, err)
		}
	}
	if err := d.Flush(); err != api.ErrArg {
		t.Errorf("Flush = %v", err)
	}
	if d.Pending() != 0 || d.Sectors() != 0 || d.Frozen() || d.Engine() != nil {
		t.Error("there is something in it")
	}
}

// The chapter does not speak of a device that Mount has not made, but no call may
// panic.
func TestP20_1DeviceThatMountHasNotMade(t *testing.T) {
	d := &Device{}
	for _, x := range append(extremes[:], -1, 0, 1) {
		b, err := d.Read(x)
		if b != nil || err != api.ErrArg || d.Write(x, flat(1)) != api.ErrArg || d.Trim(x, 1) != api.ErrArg {
			t.Errorf("there is a sector %d", x)
		}
	}
	if err := d.Trim(0, 0); err != api.OK {
		t.Errorf("Trim(0, 0) = %v", err)
	}
	if err := d.Flush(); err != api.OK {
		t.Errorf("Flush = %v", err)
	}
	if d.Pending() != 0 || d.Sectors() != 0 || d.Frozen() || d.Engine() != nil {
		t.Error("there is something in it")
	}
}

// The greatest disk there can be, and the smallest.
func TestP20_1Limits(t *testing.T) {
	for _, x := range []struct{ blocks, sectors int }{{api.MaxBlocks, api.MaxSectors}, {api.MinBlocks, 1}} {
		b, p := pair(t, x.blocks, x.sectors)
		for n := range 2 {
			mustWrite(b, p, n, numbers(0, x.sectors)...)
			b.like("written", p, 1)
		}
		b.flush()
		p.flush()
		b.again().like("mounted", p, 1)
		mustTrim(b, p, 0, x.sectors)
		b.flush()
		p.flush()
		b.again().like("trimmed", p, 1)
		if u, err := b.d.Engine().Uses(); err != api.OK || len(u) != 1 {
			t.Errorf("Uses = %v, %v", u, err)
		}
	}
	b := made(t, api.MaxBlocks, 1)
	if _, err := crown.Encode(b.d.Engine().Crown()); err != api.OK {
		t.Error(err)
	}
}
