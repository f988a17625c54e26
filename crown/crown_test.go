package crown

import (
	"math"
	"math/rand"
	"testing"

	"concertina/api"
	"concertina/node"
	"concertina/tree"
)

const lastGen = 1<<28 - 1

var (
	negZero = math.Copysign(0, -1)
	tiny    = math.SmallestNonzeroFloat64
)

// extremes is numbers that are far beyond all limits, among them some that have
// the lowest 32 bits of valid ones.
func extremes() []int {
	return []int{
		math.MinInt, math.MinInt + 1, math.MinInt + 64, -1<<32 + 3, -1 << 31, -1 << 28, -1000, -64, -3, -2, -1,
		1 << 28, 1<<28 + 3, 1<<31 - 1, 1 << 31, 1<<32 - 1, 1 << 32, 1<<32 + 3, 1<<32 + 64, 1 << 62,
		math.MaxInt - 128, math.MaxInt - 64, math.MaxInt - 1, math.MaxInt,
	}
}

// gains is thresholds that a crown may have.
func gains() []float64 {
	return []float64{0, tiny, 2 * tiny, 0x1p-1022, 1e-9, 0.1, 0.25, 0.5, 0.75, 0.9, math.Nextafter(1, 0), 1}
}

// badGains is thresholds that gain.Fix would change.
func badGains() []float64 {
	return []float64{
		negZero, -tiny, -0x1p-1022, -0.5, -1, -math.MaxFloat64, math.Inf(-1),
		math.Nextafter(1, 2), 1.5, 2, math.MaxFloat64, math.Inf(1),
		math.NaN(), math.Float64frombits(0x7ff0000000000001), math.Float64frombits(0x7fffffffffffffff),
		math.Float64frombits(0xfff8000000000000), math.Float64frombits(0xffffffffffffffff),
	}
}

// good is a valid crown with nothing at its limit.
func good() Crown {
	return Crown{Gen: 77, Blocks: 1000, Sectors: 100, Gain: 0.5, Root: tree.Root{Kid: node.Kid{At: 40, N: 3, Gen: 7}, Height: 2}}
}

// with is the good crown that f has changed.
func with(f func(c *Crown)) Crown {
	c := good()
	f(&c)
	return c
}

// withKid is a crown on so many blocks with a root of no height.
func withKid(blocks, at, n int) Crown {
	return Crown{Gen: 9, Blocks: blocks, Sectors: 1, Gain: 1, Root: tree.Root{Kid: node.Kid{At: at, N: n}}}
}

// in tells whether x is from low to high.
func in(x, low, high int) bool { return low <= x && x <= high }

// plainMay is May as the chapter tells it, sentence by sentence.
func plainMay(c Crown) bool {
	k := c.Root.Kid
	ok := in(c.Gen, 1, lastGen) && in(c.Blocks, 64, 8192) && in(c.Sectors, 1, 512)
	// What gain.Fix leaves as it is: the numbers from 0 to 1, but for negative
	// zero.
	ok = ok && c.Gain >= 0 && c.Gain <= 1 && !math.Signbit(c.Gain)
	ok = ok && in(c.Root.Height, 0, 5)
	// 8192 is the most that Blocks can be, and keeps the sum from wrapping round.
	return ok && in(k.Gen, 0, c.Gen) && in(k.At, 2, 8192) && in(k.N, 1, 128) && k.At+k.N <= c.Blocks
}

// same tells whether two crowns are alike, in the bits of their thresholds too.
func same(a, b Crown) bool {
	return a == b && math.Signbit(a.Gain) == math.Signbit(b.Gain)
}

// mustMay wants May to hold, or not to, and Encode to see it likewise.
func mustMay(t *testing.T, c Crown, want bool) {
	t.Helper()
	if got := May(c); got != want {
		t.Errorf("May(%+v) = %v, want %v", c, got, want)
	}
	b, e := Encode(c)
	if want && (e != api.OK || len(b) != api.Block) {
		t.Errorf("Encode(%+v) = %d bytes, %v, want a block, OK", c, len(b), e)
	}
	if !want && (e != api.ErrArg || len(b) != 0) {
		t.Errorf("Encode(%+v) = %d bytes, %v, want none, ErrArg", c, len(b), e)
	}
}

// mustHaveRange wants a number, which set puts into a crown, to be valid from
// low to high.
func mustHaveRange(t *testing.T, low, high int, set func(c *Crown, x int)) {
	t.Helper()
	for _, x := range []int{low, low + 1, (low + high) / 2, high - 1, high} {
		mustMay(t, with(func(c *Crown) { set(c, x) }), true)
	}
	for _, x := range append(extremes(), low-1, low-2, high+1, high+2, 2*high+1) {
		if !in(x, low, high) {
			mustMay(t, with(func(c *Crown) { set(c, x) }), false)
		}
	}
}

func TestP16_1MayOrdinary(t *testing.T) {
	mustMay(t, good(), true)
	mustMay(t, Crown{Gen: 1, Blocks: api.MinBlocks, Sectors: 1, Root: tree.Root{Kid: node.Kid{At: 2, N: 1}}}, true)
	mustMay(t, Crown{
		Gen: lastGen, Blocks: api.MaxBlocks, Sectors: api.MaxSectors, Gain: 1,
		Root: tree.Root{Kid: node.Kid{At: api.MaxBlocks - 128, N: 128, Gen: lastGen}, Height: api.MaxHeight - 1},
	}, true)
	mustMay(t, Crown{}, false)
}

func TestP16_1MayGen(t *testing.T) {
	for _, gen := range []int{1, 2, 3, 255, 256, 1 << 16, lastGen - 1, lastGen} {
		mustMay(t, with(func(c *Crown) { c.Gen, c.Root.Kid.Gen = gen, 1 }), true)
	}
	for _, gen := range append(extremes(), 0, lastGen+1) {
		// The root's generation is not what is wrong with them.
		mustMay(t, with(func(c *Crown) { c.Gen, c.Root.Kid.Gen = gen, 0 }), false)
		mustMay(t, with(func(c *Crown) { c.Gen, c.Root.Kid.Gen = gen, gen }), false)
	}
}

func TestP16_1MayBlocks(t *testing.T) {
	mustHaveRange(t, 64, 8192, func(c *Crown, x int) { c.Blocks = x })
	mustHaveRange(t, api.MinBlocks, api.MaxBlocks, func(c *Crown, x int) { c.Blocks = x })
}

func TestP16_1MaySectors(t *testing.T) {
	mustHaveRange(t, 1, 512, func(c *Crown, x int) { c.Sectors = x })
	mustHaveRange(t, 1, api.MaxSectors, func(c *Crown, x int) { c.Sectors = x })
}

func TestP16_1MayGain(t *testing.T) {
	for _, x := range gains() {
		mustMay(t, with(func(c *Crown) { c.Gain = x }), true)
	}
	for _, x := range badGains() {
		mustMay(t, with(func(c *Crown) { c.Gain = x }), false)
	}
}

func TestP16_1MayHeight(t *testing.T) {
	mustHaveRange(t, 0, 5, func(c *Crown, x int) { c.Root.Height = x })
	mustHaveRange(t, 0, api.MaxHeight-1, func(c *Crown, x int) { c.Root.Height = x })
}

func TestP16_1MayGenOfTheRoot(t *testing.T) {
	for _, gen := range []int{1, 2, 3, 77, 1 << 16, lastGen - 1, lastGen} {
		for _, x := range []int{0, 1, gen / 2, gen - 1, gen} {
			mustMay(t, with(func(c *Crown) { c.Gen, c.Root.Kid.Gen = gen, x }), true)
		}
		for _, x := range append(extremes(), gen+1, gen+2, 2*gen+1) {
			mustMay(t, with(func(c *Crown) { c.Gen, c.Root.Kid.Gen = gen, x }), false)
		}
	}
}

func TestP16_1MayFrameOfTheRoot(t *testing.T) {
	for _, blocks := range []int{64, 65, 100, 128, 129, 130, 131, 1000, 8191, 8192} {
		for _, n := range []int{1, 2, 61, 62, 63, 64, 127, 128} {
			for _, at := range []int{2, 3, 60, 61, 62, 63, blocks - n - 1, blocks - n} {
				mustMay(t, withKid(blocks, at, n), at >= 2 && at+n <= blocks)
			}
			for _, at := range append(extremes(), 0, 1, blocks-n+1, blocks-n+2, blocks-1+n, blocks, blocks+1, 8192) {
				mustMay(t, withKid(blocks, at, n), false)
			}
		}
		for _, n := range append(extremes(), 0, 129, 130, 255, 256) {
			mustMay(t, withKid(blocks, 2, n), false)
			mustMay(t, withKid(blocks, blocks-n, n), false)
		}
	}
	mustMay(t, withKid(8192, 8192-128, 128), true)
	mustMay(t, withKid(8192, 8192-129, 129), false)
}

func TestP16_1MaySumsThatWrapRound(t *testing.T) {
	for _, at := range []int{math.MaxInt, math.MaxInt - 1, math.MaxInt - 127} {
		for _, n := range []int{1, 2, 128, math.MaxInt, math.MinInt} {
			mustMay(t, withKid(8192, at, n), false)
			mustMay(t, withKid(8192, n, at), false)
		}
	}
	mustMay(t, withKid(math.MinInt, 2, 1), false)
	mustMay(t, withKid(math.MinInt+1, 2, 2), false)
}

// anyOf is one of the numbers of a list.
func anyOf(r *rand.Rand, l ...int) int { return l[r.Intn(len(l))] }

// randomCrown is a crown whose numbers are near their limits, and often beyond.
func randomCrown(r *rand.Rand) Crown {
	c := Crown{
		Gen:     anyOf(r, 0, 1, 2, 77, lastGen-1, lastGen, lastGen+1),
		Blocks:  anyOf(r, 63, 64, 65, 66, 128, 130, 8191, 8192, 8192, 8193),
		Sectors: anyOf(r, 0, 1, 2, 511, 512, 513, 100, 100),
		Gain:    gains()[r.Intn(len(gains()))],
		Root:    tree.Root{Height: anyOf(r, -1, 0, 0, 1, 2, 3, 4, 5, 6)},
	}
	if r.Intn(8) == 0 {
		c.Gain = badGains()[r.Intn(len(badGains()))]
	}
	n := anyOf(r, 0, 1, 1, 2, 3, 62, 63, 64, 128, 129)
	c.Root.Kid = node.Kid{At: anyOf(r, 1, 2, 2, 3, 60, c.Blocks-n, c.Blocks-n, c.Blocks-n+1), N: n, Gen: anyOf(r, -1, 0, 1, c.Gen-1, c.Gen, c.Gen, c.Gen+1)}
	return c
}

func TestP16_1MayAgainstPlain(t *testing.T) {
	r := rand.New(rand.NewSource(1))
	valid := 0
	for range 200000 {
		c := randomCrown(r)
		want := plainMay(c)
		if want {
			valid++
		}
		mustMay(t, c, want)
	}
	if valid < 1000 {
		t.Errorf("only %d of the crowns are valid", valid)
	}
}
