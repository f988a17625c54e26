package device

import (
	"fmt"
	"testing"

	"concertina/api"
	"concertina/platter"
)

func TestP20_1Trim(t *testing.T) {
	b, p := pair(t, 200, 100)
	mustWrite(b, p, 1, numbers(0, 20)...)
	b.flush()
	p.flush()
	mustWrite(b, p, 2, numbers(15, 20)...)
	b.untouched("Trim", func() {
		mustTrim(b, p, 0, 1)
		mustTrim(b, p, 10, 10)
		mustTrim(b, p, 12, 3)
		mustTrim(b, p, 99, 1)
		mustTrim(b, p, 50, 5)
	})
	b.like("pending", p, 1)
	mustWrite(b, p, 3, 12)
	b.flush()
	p.flush()
	b.like("committed", p, 1)
	b.again().like("mounted", p, 1)
}

// With no sectors nothing is done.
func TestP20_1TrimOfNothing(t *testing.T) {
	b, p := full(t)
	for from := range 201 {
		b.refuses(fmt.Sprintf("Trim(%d, 0)", from), api.OK, func() api.Errno { return b.d.Trim(from, 0) })
	}
	b.like("nothing trimmed", p, 1)
	b.freeze()
	for _, from := range []int{0, 100, 200} {
		b.refuses(fmt.Sprintf("Trim(%d, 0)", from), api.ErrState, func() api.Errno { return b.d.Trim(from, 0) })
	}
}

func TestP20_1TrimErrArg(t *testing.T) {
	for _, sectors := range []int{1, 40, 200, 511, 512} {
		b := made(t, 200, sectors)
		refuse := func(from, n int) {
			b.refuses(fmt.Sprintf("%d sectors: Trim(%d, %d)", sectors, from, n), api.ErrArg, func() api.Errno { return b.d.Trim(from, n) })
		}
		all := func() {
			for _, x := range extremes {
				for _, y := range append(extremes[:], -1, 0, 1, sectors, 513) {
					// From none of these numbers on there is a sector.
					refuse(x, y)
					refuse(y, x)
				}
			}
			for _, n := range []int{0, 1, 64, sectors} {
				refuse(-1, n)
				refuse(-64, n)
				refuse(sectors+1, n)
				refuse(n, -1)
				refuse(n, sectors-n+1)
			}
			refuse(sectors, 1)
			refuse(sectors-1, 2)
			refuse(0, sectors+1)
			refuse(600, 0)
		}
		all()
		b.write(1, numbers(0, min(64, sectors))...)
		all()
		b.freeze()
		all()
	}
}

func TestP20_1TrimErrState(t *testing.T) {
	b := made(t, 64, 100)
	b.write(1, 1, 2)
	b.flush()
	b.write(2, 2, 3)
	b.freeze()
	for _, from := range []int{0, 1, 2, 3, 99} {
		for _, n := range []int{0, 1, 100 - from} {
			b.refuses(fmt.Sprintf("Trim(%d, %d)", from, n), api.ErrState, func() api.Errno { return b.d.Trim(from, n) })
		}
	}
	m := mounted(t, b.p)
	m.trim(0, 100)
	m.flush()
}

// Ranges of all lengths, beside all numbers of pending sectors.
func TestP20_1TrimInParts(t *testing.T) {
	commits := 0
	for _, pending := range []int{0, 1, 10, 63, 64} {
		for _, at := range []int{0, 100, 448} {
			for _, from := range []int{0, 50, 100, 130} {
				for _, n := range []int{1, 54, 55, 63, 64, 65, 127, 128, 129, 200, 256, 382} {
					what := fmt.Sprintf("%d pending from %d on, Trim(%d, %d)", pending, at, from, n)
					b, p := pair(t, 400, 512)
					mustWrite(b, p, 1, numbers(90, 20)...)
					b.flush()
					p.flush()
					mustWrite(b, p, 2, numbers(at, pending)...)
					mustTrim(b, p, from, n)
					if got := b.d.Pending(); got != len(p.pending) {
						t.Errorf("%s: Pending = %d, want %d", what, got, len(p.pending))
					}
					if got := b.d.Engine().Crown().Gen; got != p.commits+1 {
						t.Errorf("%s: the generation is %d, want %d", what, got, p.commits+1)
					}
					commits += p.commits
					if n%9 == 1 {
						b.like(what, p, 1)
					}
				}
			}
		}
	}
	if commits < 500 {
		t.Errorf("only %d commits", commits)
	}
	b, p := full(t)
	mustTrim(b, p, 0, 200)
	b.like("all", p, 1)
	p.pending = map[int][]byte{}
	b.again().like("all, mounted", p, 1)
}

// Any one of the Flushes that Trim needs fails, at each operation.
func TestP20_1TrimFails(t *testing.T) {
	failed, frozen := map[int]int{}, map[int]int{}
	ready := func() bench {
		b, _ := full(t)
		return b
	}
	fails(t, ready, func(what string, b bench, x platter.Fault) bool {
		_, p := full(t)
		err := b.d.Trim(10, 190)
		b.p.Fail(nil)
		if err == api.OK {
			p.trim(10, 190)
			b.like(what, p, 1)
			return false
		}
		if err != api.ErrIO || b.d.Frozen() != (x.Op == platter.Sync && x.At%2 == 0) {
			t.Errorf("%s: Trim = %v, Frozen = %v", what, err, b.d.Frozen())
		}
		done := b.d.Engine().Crown().Gen - 1
		if b.d.Frozen() {
			p.trimUntil(10, 190, done-1)
			p.flush()
			frozen[done]++
		} else {
			p.trimUntil(10, 190, done)
			failed[done]++
		}
		b.like(what, p, 1)
		if !b.d.Frozen() {
			mustTrim(b, p, 10, 190)
			b.like(what, p, 1)
		}
		return true
	})
	for done := 1; done <= 3; done++ {
		if failed[done] < 5 || frozen[done+1] != 1 {
			t.Errorf("Trim has failed after so many commits: %v, and frozen: %v", failed, frozen)
		}
	}
}
