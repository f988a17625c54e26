package device

import (
	"fmt"
	"math/rand"
	"slices"
	"testing"

	"concertina/api"
	"concertina/platter"
	"concertina/walk"
)

func TestP20_3LastWrite(t *testing.T) {
	b, p := pair(t, 300, 100)
	for n := range 12 {
		mustWrite(b, p, n, numbers(n*3, 40)...)
		mustWrite(b, p, n+100, n*3+2, n*3+39)
		mustTrim(b, p, n*3+4, 5)
		mustWrite(b, p, n+200, n*3+6)
		b.like("before a flush", p, 1)
		if n%3 > 0 {
			b.flush()
			p.flush()
			b.like("after a flush", p, 1)
			b = b.again()
			b.like("mounted", p, 1)
		}
	}
}

// Each sector, and each length of a range, on its own.
func TestP20_3EachSector(t *testing.T) {
	b, p := pair(t, 4000, api.MaxSectors)
	for sector := range api.MaxSectors {
		mustWrite(b, p, 1, sector)
		b.readIs("written", sector, noise(sector, 1), api.OK)
	}
	b.flush()
	p.flush()
	b.readsAs("all written", p.reads())
	b = b.again()
	b.readsAs("mounted", p.reads())
	for n := range 31 {
		mustTrim(b, p, n*(n+1)/2, n)
	}
	b.readsAs("trimmed", p.reads())
	b.flush()
	p.flush()
	b = b.again()
	b.readsAs("mounted again", p.reads())
}

// player does things to a device and its model at random.
type player struct {
	bench
	*rand.Rand
	p *plain
	// durable is the model with what is left at least after a crash. Only if the
	// device is frozen this is not just what is committed.
	durable *plain
	// faulty tells whether faults are planned.
	faulty bool
	n      int
	// done is how often each thing has happened.
	done map[string]int
}

// data is the bytes of a sector, some of which can be compressed.
func (x *player) data() []byte {
	x.n++
	switch x.Intn(4) {
	case 0:
		return flat(byte(x.Intn(4)))
	case 1:
		b := noise(1, x.n)
		copy(b[x.Intn(128):], flat(byte(x.n)))
		return b
	}
	return noise(2, x.n)
}

// call calls one method. It returns its name, its error, and what does the same
// to a model, in which there can be only so many commits.
func (x *player) call() (string, api.Errno, func(p *plain, commits int)) {
	sector := x.Intn(x.p.sectors)
	switch k := x.Intn(18); {
	case k < 11:
		data := x.data()
		return "Write", x.d.Write(sector, data), func(p *plain, commits int) { p.writeUntil(sector, data, commits) }
	case k < 15:
		n := x.Intn(x.p.sectors - sector + 1)
		if x.Intn(3) > 0 {
			n %= 9
		}
		return "Trim", x.d.Trim(sector, n), func(p *plain, commits int) { p.trimUntil(sector, n, commits) }
	}
	return "Flush", x.d.Flush(), func(p *plain, commits int) {
		if p.commits < commits {
			p.flush()
		}
	}
}

// step calls one method, and then wants that the device is as the model. How far
// a call that failed has got is known from the device's generation.
func (x *player) step() {
	x.t.Helper()
	was := x.d.Frozen()
	what, err, call := x.call()
	x.done[fmt.Sprint(what, " ", err)]++
	if err != api.OK && (err == api.ErrState) != was || !was && err != api.OK && err != api.ErrFull && (err != api.ErrIO || !x.faulty) {
		x.t.Fatalf("%s = %v, Frozen = %v before", what, err, was)
	}
	commits := x.d.Engine().Crown().Gen - 1
	switch {
	case err == api.OK:
		call(x.p, 1000)
	case was:
		// Nothing is done.
	case x.d.Frozen():
		// The commit that has frozen it is the last one.
		call(x.p, commits-1)
		x.durable = x.p.clone()
		x.p.flush()
	default:
		call(x.p, commits)
	}
	if !x.d.Frozen() {
		x.durable = x.p.clone()
	}
	if commits != x.p.commits || x.d.Pending() != len(x.p.pending) {
		x.t.Fatalf("%s = %v: %d commits, %d are pending, want %d and %d", what, err, commits, x.d.Pending(), x.p.commits, len(x.p.pending))
	}
	if err != api.OK || x.Intn(20) == 0 {
		// A fault that is still to come would hit the reads below.
		x.bench.p.Fail(nil)
		x.like(what, x.p, 1)
	}
}

// wrong does what must have no effect.
func (x *player) wrong() {
	x.t.Helper()
	x.refuses("Write", api.ErrArg, func() api.Errno { return x.d.Write(x.p.sectors+x.Intn(3), flat(1)) })
	x.refuses("Write", api.ErrArg, func() api.Errno { return x.d.Write(x.Intn(x.p.sectors), make([]byte, x.Intn(128))) })
	x.refuses("Trim", api.ErrArg, func() api.Errno { return x.d.Trim(x.Intn(x.p.sectors), x.p.sectors+1) })
	x.refuses("Trim", api.ErrArg, func() api.Errno { return x.d.Trim(-1-x.Intn(9), x.Intn(9)) })
}

// mount mounts the platter anew, maybe after a crash.
func (x *player) mount() {
	x.t.Helper()
	what, want := "mounted", x.p
	if x.Intn(2) == 0 {
		what = "crashed"
		x.bench.p.Crash(bits(x.bench.p.Cached(), int(x.Int63())))
		if x.d.Frozen() {
			what = "crashed when frozen"
		}
	}
	x.bench.p.Fail(nil)
	x.bench = mounted(x.t, x.bench.p)
	if what == "crashed when frozen" && x.d.Engine().Crown().Gen == x.durable.commits+1 {
		what, want = "crashed when frozen, and lost", x.durable
	}
	want.pending = map[int][]byte{}
	x.p, x.durable = want, want.clone()
	x.done[what]++
	x.like(what, want, 1)
}

// play plays so many steps. One of faults steps has a fault planned.
func play(t *testing.T, seed int64, blocks, sectors, steps, faults int) map[string]int {
	t.Helper()
	x := &player{bench: made(t, blocks, sectors), Rand: rand.New(rand.NewSource(seed)), p: plainNew(sectors), faulty: faults > 0, done: map[string]int{}}
	x.durable = x.p.clone()
	for range steps {
		if faults > 0 && x.Intn(faults) == 0 {
			op := kinds[x.Intn(3)]
			at := 1 + x.Intn(30)
			if op == platter.Sync {
				at = 1 + x.Intn(2)
			}
			x.bench.p.Fail([]platter.Fault{{Op: op, At: at}})
		}
		x.step()
		if x.Intn(10) == 0 {
			x.wrong()
		}
		if x.d.Frozen() && x.Intn(4) == 0 || x.Intn(40) == 0 {
			x.mount()
		}
	}
	return x.done
}

func TestP20_3AtRandom(t *testing.T) {
	for seed, x := range []struct{ blocks, sectors, steps int }{
		{200, 10, 1500}, {600, 100, 3000}, {4000, 512, 3000},
	} {
		done := play(t, int64(seed), x.blocks, x.sectors, x.steps, 0)
		if done["Write ok"] < x.steps/3 || done["Flush ok"] < x.steps/10 || done["mounted"] < 10 || done["crashed"] < 10 {
			t.Errorf("%d sectors: %v", x.sectors, done)
		}
	}
}

// The same on a disk that is often full.
func TestP20_3AtRandomWhenFull(t *testing.T) {
	for seed, x := range []struct{ blocks, sectors, steps int }{
		{64, 60, 2000}, {100, 512, 2000},
	} {
		done := play(t, int64(seed), x.blocks, x.sectors, x.steps, 0)
		if done["Write ok"] < x.steps/8 || done["Flush ok"] < x.steps/100 || done["Flush full"] < x.steps/100 || x.sectors > 64 && (done["Write full"] < x.steps/200 || done["Trim full"] < x.steps/200) {
			t.Errorf("%d blocks: %v", x.blocks, done)
		}
	}
}

// The same with operations that fail, and with crashes after them.
func TestP20_3AtRandomWithFaults(t *testing.T) {
	for seed, x := range []struct{ blocks, sectors, steps int }{
		{200, 20, 3000}, {600, 100, 4000}, {3000, 512, 3000},
	} {
		done := play(t, int64(seed), x.blocks, x.sectors, x.steps, 6)
		if done["Flush input or output"] < x.steps/100 || done["Write state"] < 10 || done["Trim state"] < 5 || done["mounted"] < 20 || done["crashed"] < 20 ||
			done["crashed when frozen"]+done["crashed when frozen, and lost"] < 10 || done["crashed when frozen, and lost"] < 3 {
			t.Errorf("%d sectors: %v", x.sectors, done)
		}
	}
}

// Whichever blocks are rotten, what is read is right or an error, and it is an
// error for just those sectors that walk.Check names.
func TestP20_3AtRandomWhenRotten(t *testing.T) {
	rnd := rand.New(rand.NewSource(4))
	lost, fine := 0, 0
	for range 60 {
		b, p := pair(t, 600, 150)
		for n := range 4 {
			for range 60 {
				mustWrite(b, p, n, rnd.Intn(150))
			}
			b.flush()
			p.flush()
		}
		mustWrite(b, p, 9, numbers(20, 5)...)
		mustTrim(b, p, 30, 5)
		want := p.reads()
		for range 1 + rnd.Intn(20) {
			b.p.Rot(2+rnd.Intn(200), rnd.Intn(8*api.Block), 1<<rnd.Intn(32))
		}
		e := b.d.Engine()
		gone := walk.Check(e.Slab(), e.Crown().Root, 150)
		for sector, s := range want {
			isGone := slices.ContainsFunc(gone, func(x walk.Lost) bool { return sector >= x.From && sector < x.To })
			if _, pending := p.pending[sector]; isGone && !pending {
				b.readIs("rotten", sector, nil, api.ErrLost)
				lost++
			} else {
				b.readIs("not rotten", sector, []byte(s), api.OK)
				fine++
			}
		}
	}
	if lost < 1000 || fine < 1000 {
		t.Errorf("%d sectors were lost, %d were not", lost, fine)
	}
}
