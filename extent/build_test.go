package extent

import (
	"bytes"
	"math"
	"math/rand"
	"slices"
	"testing"

	"concertina/api"
	"concertina/leaf"
	"concertina/mould"
	"concertina/tally"
)

const (
	greatestGen = 1<<31 - 1
	greatestNum = 1<<28 - 1
)

// thresholds is numbers that Build can be given as its threshold.
var thresholds = [...]float64{0, 0.1, 0.25, 0.5, 0.75, 0.9, 1, -1, 2, math.Copysign(0, -1), math.SmallestNonzeroFloat64, math.MaxFloat64}

// anyThresholds is all of these, and those that are no ordinary numbers.
func anyThresholds() []float64 {
	return append(thresholds[:], math.NaN(), math.Inf(1), math.Inf(-1))
}

// notGens is numbers of no generation.
func notGens() []int {
	return []int{-1, -2, greatestGen + 1, greatestGen + 2, 1 << 32, math.MinInt, math.MaxInt}
}

// num is an integer as package cell encodes it.
func num(x int) []byte {
	if x < 128 {
		return []byte{byte(x)}
	}
	return append([]byte{byte(x%128) + 128}, num(x/128)...)
}

// dataOf is an extent's data: two integers, a length and as many bytes.
func dataOf(sectors, kind int, packed []byte) []byte {
	return slices.Concat(num(sectors), num(kind), num(len(packed)), packed)
}

// joined is all sectors, one behind another.
func joined(l [][]byte) []byte {
	var b []byte
	for _, s := range l {
		b = append(b, s...)
	}
	return b
}

// plainBuild is Build as the chapter tells it.
func plainBuild(l [][]byte, gen int, x float64) ([]byte, api.Errno) {
	if len(l) == 0 || len(l) > api.Slots || gen < 0 || gen > greatestGen {
		return nil, api.ErrArg
	}
	for _, s := range l {
		if len(s) != api.Sector {
			return nil, api.ErrArg
		}
	}
	kind, packed := mould.Best(joined(l), x)
	return leaf.Make(0xe7, gen, dataOf(len(l), kind, packed))
}

// filled is n sectors; f tells their bytes.
func filled(n int, f func(i int) byte) [][]byte {
	l := make([][]byte, n)
	for k := range l {
		l[k] = make([]byte, api.Sector)
		for i := range l[k] {
			l[k][i] = f(k*api.Sector + i)
		}
	}
	return l
}

// counted is n sectors with bytes that count from 1 on; no two of up to eight
// sectors begin alike.
func counted(n int) [][]byte {
	return filled(n, func(i int) byte { return byte(i/api.Sector*40 + i%api.Sector + 1) })
}

func zeros(n int) [][]byte {
	return filled(n, func(int) byte { return 0 })
}

func text(n int) [][]byte {
	const words = "a sector full of words, and words about a sector; "
	return filled(n, func(i int) byte { return words[i%len(words)] })
}

func noise(r *rand.Rand, n, letters int) [][]byte {
	return filled(n, func(int) byte { return byte(r.Intn(letters)) })
}

// mixed is n sectors, of which some can be compressed and some cannot.
func mixed(r *rand.Rand, n int) [][]byte {
	l := text(n)
	for i := range l {
		switch i % 3 {
		case 0:
			l[i] = noise(r, 1, 256)[0]
		case 1:
			clear(l[i])
		}
	}
	return l
}

// samples is sectors for extents of every size, compressible more or less.
func samples() [][][]byte {
	r := rand.New(rand.NewSource(1))
	var all [][][]byte
	for n := 1; n <= api.Slots; n++ {
		all = append(all, zeros(n), counted(n), text(n))
		for _, letters := range []int{2, 3, 10, 60, 256} {
			all = append(all, noise(r, n, letters))
		}
		all = append(all, mixed(r, n))
	}
	return all
}

func mustBuild(t *testing.T, l [][]byte, gen int, x float64) []byte {
	t.Helper()
	b, e := Build(l, gen, x)
	if e != api.OK || len(b) == 0 {
		t.Fatalf("Build(%d sectors, %d, %v) = %d bytes, %v", len(l), gen, x, len(b), e)
	}
	return b
}

func mustNotBuild(t *testing.T, l [][]byte, gen int, x float64) {
	t.Helper()
	if b, e := Build(l, gen, x); e != api.ErrArg || len(b) != 0 {
		t.Errorf("Build(%d sectors, %d, %v) = %d bytes, %v, want none, ErrArg", len(l), gen, x, len(b), e)
	}
}

// withSum is the header of a frame, its data and zero bytes to the block's end.
func withSum(head, data []byte, blocks int) []byte {
	sum := tally.Word(tally.More(tally.Sum(head), data))
	slices.Reverse(sum[:])
	b := slices.Concat(head, sum[:], data)
	return append(b, make([]byte, blocks*api.Block-len(b))...)
}

func TestP10_1Kind(t *testing.T) {
	if Kind != 0xe7 {
		t.Errorf("Kind is %#x", Kind)
	}
}

func TestP10_1BuildKnown(t *testing.T) {
	head := func(gen, size int) []byte {
		return []byte{0xc5, 0x7e, 0xe7, 0, byte(gen), byte(gen >> 8), byte(gen >> 16), byte(gen >> 24), byte(size), byte(size >> 8), 0, 0}
	}
	// A zero, 122 more of them, and five at the end.
	one := []byte{1, 1, 11, 0x1f, 0, 1, 0, 0x67, 0x50, 0, 0, 0, 0, 0}
	if b := mustBuild(t, zeros(1), 3, 1); !bytes.Equal(b, withSum(head(3, 14), one, 1)) {
		t.Errorf("one zero sector: %x", b)
	}
	// 1018 more of them.
	eight := []byte{8, 1, 14, 0x1f, 0, 1, 0, 255, 255, 255, 234, 0x50, 0, 0, 0, 0, 0}
	if b := mustBuild(t, zeros(8), 0x01020304, 1); !bytes.Equal(b, withSum(head(0x01020304, 17), eight, 1)) {
		t.Errorf("eight zero sectors: %x", b)
	}
	// Uncompressed, 128 bytes behind 1 0 80 01, and 384 behind 3 0 80 03.
	raw := append([]byte{1, 0, 0x80, 1}, make([]byte, 128)...)
	if b := mustBuild(t, zeros(1), 0, 0); !bytes.Equal(b, withSum(head(0, 132), raw, 3)) {
		t.Errorf("one zero sector, uncompressed: %x", b)
	}
	l := noise(rand.New(rand.NewSource(2)), 3, 256)
	raw = append([]byte{3, 0, 0x80, 3}, joined(l)...)
	if b := mustBuild(t, l, greatestGen, 1); !bytes.Equal(b, withSum(head(greatestGen, 388), raw, 7)) {
		t.Errorf("three random sectors: %x", b)
	}
}

func TestP10_1BuildExample(t *testing.T) {
	l, gen, e := Open(mustBuild(t, zeros(8), 3, 1))
	if e != api.OK || gen != 3 || !slices.EqualFunc(l, zeros(8), bytes.Equal) {
		t.Errorf("Open = %d sectors, %d, %v", len(l), gen, e)
	}
}

func TestP10_1BuildAgainstPlain(t *testing.T) {
	var seen [3]int
	for i, l := range samples() {
		for _, x := range anyThresholds() {
			gen := i * 1234567 % (greatestGen + 1)
			want, _ := plainBuild(l, gen, x)
			b := mustBuild(t, l, gen, x)
			if !bytes.Equal(b, want) {
				t.Fatalf("sample %d, threshold %v: %x, want %x", i, x, b, want)
			}
			seen[b[17]]++
		}
	}
	for kind, n := range seen {
		if n < 10 {
			t.Errorf("format %d was chosen %d times", kind, n)
		}
	}
}

// A compressed extent is smaller as a whole: what follows one sector counts for
// the next.
func TestP10_1BuildPacksAllTogether(t *testing.T) {
	s := noise(rand.New(rand.NewSource(3)), 1, 256)[0]
	b := mustBuild(t, [][]byte{s, s, s, s, s, s, s, s}, 1, 1)
	if len(b) > 4*api.Block {
		t.Errorf("eight equal sectors have %d bytes", len(b))
	}
}

func TestP10_1BuildKeepsTheOrder(t *testing.T) {
	l := counted(8)
	slices.Reverse(l)
	_, data, _ := leaf.Open(mustBuild(t, l, 1, 0), Kind)
	if !bytes.Equal(data, dataOf(8, mould.Raw, joined(l))) {
		t.Errorf("the data are %x", data)
	}
}

func TestP10_1BuildCounts(t *testing.T) {
	mustNotBuild(t, nil, 1, 1)
	mustNotBuild(t, [][]byte{}, 1, 1)
	for n := 1; n <= 8; n++ {
		mustBuild(t, counted(n), 1, 1)
	}
	for _, n := range []int{9, 10, 16, 31, 32, 33, 64, 257, 264} {
		mustNotBuild(t, counted(n), 1, 1)
		mustNotBuild(t, zeros(n), 1, 0)
	}
}

func TestP10_1BuildSizes(t *testing.T) {
	for n := 1; n <= 8; n++ {
		for k := range n {
			for _, size := range []int{0, 1, 64, 127, 129, 130, 192, 256, 384} {
				l := counted(n)
				l[k] = make([]byte, size)
				mustNotBuild(t, l, 1, 1)
			}
			l := counted(n)
			l[k] = nil
			mustNotBuild(t, l, 1, 1)
			// With room for more it still has the wrong size.
			l[k] = make([]byte, 127, 128)
			mustNotBuild(t, l, 1, 1)
		}
	}
	// Together, these have the right size.
	b := make([]byte, 256)
	mustNotBuild(t, [][]byte{b[:127], b[127:]}, 1, 1)
	mustNotBuild(t, [][]byte{b}, 1, 1)
}

func TestP10_1BuildGens(t *testing.T) {
	for _, gen := range []int{0, 1, 2, 255, 256, 1 << 16, 1<<28 - 1, 1 << 28, 1 << 30, greatestGen - 1, greatestGen} {
		b := mustBuild(t, counted(2), gen, 1)
		if got, _, e := leaf.Open(b, Kind); got != gen || e != api.OK {
			t.Errorf("generation %d is %d, %v", gen, got, e)
		}
	}
	for _, gen := range notGens() {
		for n := range 10 {
			mustNotBuild(t, counted(n), gen, 1)
		}
		mustNotBuild(t, [][]byte{nil}, gen, 0)
	}
}

func TestP10_1BuildLeavesItsArgument(t *testing.T) {
	for _, x := range []float64{0, 1} {
		for _, gen := range []int{5, -1} {
			whole := append(joined(text(3)), "behind"...)
			kept := slices.Clone(whole)
			// Each has the next ones as its spare capacity.
			list := [][]byte{whole[:128], whole[128:256], whole[256:384], whole[:5]}
			l := list[:3]
			b, _ := Build(l, gen, x)
			if !bytes.Equal(whole, kept) || len(list[3]) != 5 || !slices.EqualFunc(l, text(3), bytes.Equal) {
				t.Errorf("Build(.., %d, %v) has changed its argument", gen, x)
			}
			b = b[:cap(b)]
			for i := range b {
				b[i] ^= 0xff
			}
			if !bytes.Equal(whole, kept) {
				t.Errorf("Build(.., %d, %v) has handed out its argument", gen, x)
			}
		}
	}
}

func TestP10_1BuildSharesNothing(t *testing.T) {
	for _, x := range []float64{0, 1} {
		for n := 1; n <= 8; n++ {
			l := counted(n)
			one := mustBuild(t, l, 1, x)
			kept := slices.Clone(one)
			two := mustBuild(t, l, 1, x)
			clear(two[:cap(two)])
			for _, s := range l {
				clear(s)
			}
			if !bytes.Equal(one, kept) {
				t.Errorf("%d sectors: what Build has returned changes later", n)
			}
		}
	}
}

func TestP10_1BuildIsTheSameEachTime(t *testing.T) {
	for _, l := range samples() {
		for _, x := range []float64{0, 0.5, 1, math.NaN()} {
			one, two := mustBuild(t, l, 7, x), mustBuild(t, l, 7, x)
			if !bytes.Equal(one, two) {
				t.Fatalf("%d sectors: %x, then %x", len(l), one, two)
			}
		}
	}
	// A sector may be there more than once.
	s := text(1)[0]
	if !bytes.Equal(mustBuild(t, [][]byte{s, s}, 1, 1), mustBuild(t, [][]byte{s, bytes.Clone(s)}, 1, 1)) {
		t.Error("the same sector twice is not as two equal ones")
	}
}
