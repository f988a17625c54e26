package tally

import (
	"bytes"
	"math"
	"math/bits"
	"math/rand"
	"slices"
	"testing"

	"concertina/api"
)

// divided is the CRC found by a long division, bit by bit, of the whole text
// with 32 zero bits behind it. Starting from a register with all bits set is
// complementing the first 32 bits of that.
func divided(b []byte) uint32 {
	var l []byte
	for _, x := range append(slices.Clone(b), 0, 0, 0, 0) {
		for i := range 8 {
			l = append(l, x>>(7-i)&1)
		}
	}
	for i := range 32 {
		l[i] ^= 1
	}
	for i := range len(l) - 32 {
		if l[i] == 0 {
			continue
		}
		l[i] = 0
		for j := range 32 {
			l[i+1+j] ^= byte(uint32(0x741B8CD7) >> (31 - j) & 1)
		}
	}
	var rest uint32
	for _, x := range l[len(l)-32:] {
		rest = rest<<1 | uint32(x)
	}
	return ^rest
}

// squares is n bytes that do not repeat soon.
func squares(n int) []byte {
	b := make([]byte, n)
	for i := range b {
		b[i] = byte(i*i + 7*i)
	}
	return b
}

func randomBytes(r *rand.Rand, n int) []byte {
	b := make([]byte, n)
	r.Read(b)
	return b
}

func mustSum(t *testing.T, b []byte, want uint32) {
	t.Helper()
	if got := Sum(b); got != want {
		t.Errorf("Sum of %d bytes = %08x, want %08x", len(b), got, want)
	}
}

func TestP3_1SumKnown(t *testing.T) {
	for _, c := range []struct {
		b    []byte
		want uint32
	}{
		{nil, 0}, {[]byte{}, 0},
		{[]byte{0}, 0x4e344afc}, {[]byte{1}, 0x3a2fc62b}, {[]byte{0x80}, 0x1d17e395}, {[]byte{255}, 0x000000ff},
		{[]byte("a"), 0x5a701bf0}, {[]byte("abc"), 0x20f5e3f6}, {[]byte("123456789"), 0xd14eb786},
		{[]byte{255, 255}, 0x0000ffff}, {[]byte{255, 255, 255}, 0x00ffffff}, {[]byte{255, 255, 255, 255}, math.MaxUint32},
		// The register is zero behind four bytes with all bits set: zero bytes leave it so.
		{[]byte{255, 255, 255, 255, 0, 0, 0, 0, 0}, math.MaxUint32},
		// The complement of the polynomial itself.
		{[]byte{255, 255, 255, 255, 1}, 0x8be47328},
		{make([]byte, 4), 0x23b33def}, {make([]byte, api.Block), 0x7140fe5a}, {make([]byte, api.MaxData), 0x6e42c1fa},
		{bytes.Repeat([]byte{255}, api.Block), 0x12a7e1ea}, {bytes.Repeat([]byte{255}, api.MaxData), 0xcf952a7c},
		{squares(api.MaxData), 0x0e104f94},
	} {
		mustSum(t, c.b, c.want)
	}
}

func TestP3_1SumAllSingleBytes(t *testing.T) {
	for x := range 256 {
		mustSum(t, []byte{byte(x)}, divided([]byte{byte(x)}))
		// Behind four bytes that empty the register, what x alone does to it shows.
		b := []byte{255, 255, 255, 255, byte(x)}
		mustSum(t, b, divided(b))
	}
}

func TestP3_1SumLengths(t *testing.T) {
	r := rand.New(rand.NewSource(1))
	for n := range 200 {
		for _, b := range [][]byte{make([]byte, n), bytes.Repeat([]byte{255}, n), squares(n), randomBytes(r, n)} {
			mustSum(t, b, divided(b))
		}
	}
	for _, n := range []int{api.MaxData - 1, api.MaxData, api.MaxData + 1, api.MaxData + 12, 1 << 16, 1 << 20} {
		b := randomBytes(r, n)
		mustSum(t, b, divided(b))
	}
}

func TestP3_1SumOfEachBit(t *testing.T) {
	for _, n := range []int{1, 2, 3, 4, 5, 12, api.Block} {
		for bit := range 8 * n {
			b := make([]byte, n)
			b[bit/8] = 0x80 >> (bit % 8)
			mustSum(t, b, divided(b))
			for i := range b {
				b[i] = ^b[i]
			}
			mustSum(t, b, divided(b))
		}
	}
}

// A multiple of the polynomial, which is 33 bits long, leaves no remainder.
func TestP3_1SumIgnoresMultiples(t *testing.T) {
	b := squares(api.Block)
	s := Sum(b)
	for at := range len(b) - 5 {
		for shift := range 8 {
			c := slices.Clone(b)
			for i := range 6 {
				c[at+i] ^= byte(uint64(0x1741B8CD7) << shift >> (8 * (5 - i)))
			}
			mustSum(t, c, s)
		}
	}
}

func TestP3_1SumLeavesItsArgument(t *testing.T) {
	for n := range 70 {
		whole := squares(api.Block * 2)
		b := whole[5 : 5+n]
		s, m := Sum(b), More(99, b)
		if !bytes.Equal(whole, squares(api.Block*2)) {
			t.Errorf("a slice of %d bytes was changed", n)
		}
		// Only the bytes themselves matter: neither where they lie, nor their
		// capacity, nor what was asked before.
		if c := bytes.Clone(b); Sum(c) != s || More(99, c) != m || Sum(b) != s {
			t.Errorf("the sum of %d bytes depends on more than the bytes", n)
		}
	}
	// No byte is kept: a changed slice has another sum.
	b := squares(20)
	s := Sum(b)
	b[19]++
	if Sum(b) == s {
		t.Error("a changed slice has the old sum")
	}
}

func TestP3_1MoreOfParts(t *testing.T) {
	r := rand.New(rand.NewSource(2))
	for n := range 130 {
		b := randomBytes(r, n)
		want := divided(b)
		for at := range n + 1 {
			if got := More(Sum(b[:at]), b[at:]); got != want {
				t.Errorf("More from %d of %d bytes = %08x, want %08x", at, n, got, want)
			}
		}
		var s uint32
		for i := range b {
			s = More(s, b[i:i+1])
		}
		if s != want {
			t.Errorf("More byte by byte of %d = %08x, want %08x", n, s, want)
		}
	}
}

func TestP3_1MoreOfManyParts(t *testing.T) {
	r := rand.New(rand.NewSource(3))
	b := randomBytes(r, 1<<20)
	var s uint32
	for at := 0; at < len(b); {
		next := min(at+r.Intn(3000), len(b))
		s = More(s, b[at:next])
		at = next
	}
	if want := divided(b); s != want {
		t.Errorf("More in parts = %08x, want %08x", s, want)
	}
}

// sums is numbers of which each is the Sum of some bytes.
func sums(r *rand.Rand) []uint32 {
	l := []uint32{0, 1, 2, 0x7fffffff, 0x80000000, 0x80000001, 0x741B8CD7, 0x8BE47328, 0xfffffffe, math.MaxUint32}
	for range 1000 {
		l = append(l, r.Uint32())
	}
	return l
}

// withSum is the four bytes whose Sum is s, found by undoing the 32 shifts
// that led from the first register and those bytes to s.
func withSum(s uint32) []byte {
	register := ^s
	for range 32 {
		// The polynomial is odd: a lowest bit that is set came from it.
		if register&1 == 1 {
			register = (register^0x741B8CD7)>>1 | 1<<31
		} else {
			register >>= 1
		}
	}
	w := Word(^register)
	return w[:]
}

func TestP3_1MoreOfAnySum(t *testing.T) {
	r := rand.New(rand.NewSource(4))
	for _, s := range sums(r) {
		a := withSum(s)
		mustSum(t, a, s)
		for _, b := range [][]byte{nil, {}} {
			if got := More(s, b); got != s {
				t.Errorf("More(%08x) of no bytes = %08x", s, got)
			}
		}
		b := randomBytes(r, 1+r.Intn(70))
		if got, want := More(s, b), divided(append(a, b...)); got != want {
			t.Errorf("More(%08x, %x) = %08x, want %08x", s, b, got, want)
		}
	}
}

func TestP3_1Word(t *testing.T) {
	for _, c := range []struct {
		s    uint32
		want [4]byte
	}{
		{0, [4]byte{}},
		{0x01020304, [4]byte{1, 2, 3, 4}}, {0x01020384, [4]byte{1, 2, 3, 0x84}},
		{0xff000000, [4]byte{255, 0, 0, 0}}, {0x00ff0000, [4]byte{0, 255, 0, 0}},
		{0x0000ff00, [4]byte{0, 0, 255, 0}}, {0x000000ff, [4]byte{0, 0, 0, 255}},
		{0x80000000, [4]byte{0x80, 0, 0, 0}}, {0x7fffffff, [4]byte{0x7f, 255, 255, 255}},
		{math.MaxUint32, [4]byte{255, 255, 255, 255}},
	} {
		if got := Word(c.s); got != c.want {
			t.Errorf("Word(%08x) = %v, want %v", c.s, got, c.want)
		}
	}
	for _, s := range sums(rand.New(rand.NewSource(5))) {
		var back uint32
		for _, x := range Word(s) {
			back = back<<8 | uint32(x)
		}
		if back != s {
			t.Errorf("Word(%08x) = %v", s, Word(s))
		}
	}
}

// Bytes followed by their own sum have the same sum as all others that are.
func TestP3_1WordBehindItsBytes(t *testing.T) {
	r := rand.New(rand.NewSource(6))
	want := divided(make([]byte, 4))
	for n := range 300 {
		b := randomBytes(r, n)
		w := Word(Sum(b))
		mustSum(t, append(b, w[:]...), want)
	}
}

// changed is b with x exclusive-ored into its bytes from at on.
func changed(b []byte, at int, x ...byte) []byte {
	c := slices.Clone(b)
	for i, y := range x {
		c[at+i] ^= y
	}
	return c
}

func mustDiffer(t *testing.T, b []byte, at int, x ...byte) {
	t.Helper()
	if Sum(changed(b, at, x...)) == Sum(b) {
		t.Errorf("of %d bytes, those from %d on changed by %x: the same sum %08x", len(b), at, x, Sum(b))
	}
}

func TestP3_2ShortSlicesDiffer(t *testing.T) {
	for n := 1; n <= 2; n++ {
		seen := map[uint32]int{}
		for i := range 1 << (8 * n) {
			b := []byte{byte(i), byte(i >> 8)}[:n]
			if before, ok := seen[Sum(b)]; ok {
				t.Errorf("the slices %d and %d of %d bytes have the same sum", before, i, n)
			}
			seen[Sum(b)] = i
		}
	}
}

func TestP3_2OneAndTwoBytes(t *testing.T) {
	for _, n := range []int{2, 3, 4, 5, api.Block} {
		b := squares(n)
		for _, at := range []int{0, (n - 2) / 2, n - 2} {
			for i := 1; i < 1<<16; i++ {
				mustDiffer(t, b, at, byte(i), byte(i>>8))
			}
		}
	}
}

func TestP3_2TwoBitsOfFourBytes(t *testing.T) {
	for _, n := range []int{4, 5, 16, api.Block} {
		for _, b := range [][]byte{squares(n), make([]byte, n), bytes.Repeat([]byte{255}, n)} {
			for at := range n - 3 {
				for i := range 32 {
					for j := range i + 1 {
						x := Word(1<<i | 1<<j)
						mustDiffer(t, b, at, x[:]...)
					}
				}
			}
		}
	}
}

func TestP3_2FourBytes(t *testing.T) {
	r := rand.New(rand.NewSource(7))
	for _, n := range []int{4, 5, 7, 8, 63, api.Block, 65, api.Sector, api.MaxData - 1, api.MaxData, api.MaxData + 12} {
		for range 200 {
			b := randomBytes(r, n)
			for _, at := range []int{0, n - 4, r.Intn(n - 3)} {
				x := randomBytes(r, 4)
				x[r.Intn(4)] |= 1
				mustDiffer(t, b, at, x...)
				mustDiffer(t, b, at, 255, 255, 255, 255)
				mustDiffer(t, b, at, 0x80, 0, 0, 1)
				mustDiffer(t, b, at, 0x74, 0x1b, 0x8c, 0xd7)
			}
		}
	}
}

// rank is the number of rows of l that no exclusive or of others is.
func rank(l []uint32) int {
	var base [32]uint32
	n := 0
	for _, x := range l {
		for x != 0 {
			i := 31 - bits.LeadingZeros32(x)
			if base[i] == 0 {
				base[i] = x
				n++
				break
			}
			x ^= base[i]
		}
	}
	return n
}

// What a change does to the sum is the exclusive or of what each of its bits
// does alone. The bits of four bytes together change it, whichever they are,
// because no one's effect comes about by others: that covers all 2^32 changes.
func TestP3_2AllChanges(t *testing.T) {
	r := rand.New(rand.NewSource(8))
	for _, n := range []int{1, 2, 3, 4, 5, 12, 16, api.Block, api.Sector, 1000, api.MaxData} {
		b := randomBytes(r, n)
		s, wide := Sum(b), min(n, 4)
		for _, at := range []int{0, (n - wide) / 2, n - wide} {
			var alone []uint32
			for bit := range 8 * wide {
				x := make([]byte, wide)
				x[bit/8] = 1 << (bit % 8)
				alone = append(alone, Sum(changed(b, at, x...))^s)
			}
			if rank(alone) != 8*wide {
				t.Errorf("%d bytes, from %d on: some changes of %d bits cancel", n, at, 8*wide)
			}
			for range 100 {
				x := randomBytes(r, wide)
				want := s
				for bit, y := range alone {
					if x[bit/8]>>(bit%8)&1 == 1 {
						want ^= y
					}
				}
				mustSum(t, changed(b, at, x...), want)
			}
		}
	}
}
