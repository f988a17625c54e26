package crown

import (
	"bytes"
	"encoding/binary"
	"math"
	"math/rand"
	"slices"
	"testing"

	"concertina/api"
	"concertina/node"
	"concertina/tally"
	"concertina/tree"
)

// summed is b with the checksum of its first 60 bytes.
func summed(b []byte) []byte {
	b = slices.Clone(b)
	binary.LittleEndian.PutUint32(b[60:], tally.Sum(b[:60]))
	return b
}

// plainBlock is the block that the chapter describes, put together piece by
// piece, of a crown that is valid or not.
func plainBlock(c Crown) []byte {
	b := []byte{0xc0, 0x9e}
	k := c.Root.Kid
	for _, x := range []int{c.Gen, c.Blocks, c.Sectors, k.At, k.N, k.Gen, c.Root.Height} {
		b = binary.LittleEndian.AppendUint32(b, uint32(x))
	}
	b = binary.LittleEndian.AppendUint64(b, math.Float64bits(c.Gain))
	return summed(append(b, make([]byte, 64-len(b))...))
}

// plainDecode is Decode as the chapter tells it, in its order.
func plainDecode(b []byte) (Crown, api.Errno) {
	if len(b) != 64 {
		return Crown{}, api.ErrArg
	}
	if binary.LittleEndian.Uint32(b[60:]) != tally.Sum(b[:60]) {
		return Crown{}, api.ErrSum
	}
	var l [7]int
	for i := range l {
		l[i] = int(binary.LittleEndian.Uint32(b[2+4*i:]))
	}
	c := Crown{
		Gen: l[0], Blocks: l[1], Sectors: l[2],
		Gain: math.Float64frombits(binary.LittleEndian.Uint64(b[30:])),
		Root: tree.Root{Kid: node.Kid{At: l[3], N: l[4], Gen: l[5]}, Height: l[6]},
	}
	if !bytes.HasPrefix(b, []byte{0xc0, 0x9e}) || !plainMay(c) || bytes.Count(b[38:60], []byte{0}) != 22 {
		return Crown{}, api.ErrForm
	}
	return c, api.OK
}

func mustEncode(t *testing.T, c Crown) []byte {
	t.Helper()
	b, e := Encode(c)
	if e != api.OK || len(b) != api.Block {
		t.Fatalf("Encode(%+v) = %d bytes, %v", c, len(b), e)
	}
	return b
}

func mustDecode(t *testing.T, b []byte, want Crown) {
	t.Helper()
	if c, e := Decode(b); !same(c, want) || e != api.OK {
		t.Errorf("Decode(%x) = %+v, %v, want %+v, OK", b, c, e, want)
	}
}

func mustNotDecode(t *testing.T, b []byte, want api.Errno) {
	t.Helper()
	if c, e := Decode(b); !same(c, Crown{}) || e != want {
		t.Errorf("Decode(%x) = %+v, %v, want no crown, %v", b, c, e, want)
	}
}

// bare is a crown of these numbers, in the order in which they are stored.
func bare(gen, blocks, sectors, at, n, kidGen, height int, x float64) Crown {
	return Crown{Gen: gen, Blocks: blocks, Sectors: sectors, Gain: x, Root: tree.Root{Kid: node.Kid{At: at, N: n, Gen: kidGen}, Height: height}}
}

// TestP16_1Known has sums that were computed apart from the program.
func TestP16_1Known(t *testing.T) {
	for _, c := range []struct {
		crown Crown
		begin string
		sum   string
	}{
		{
			bare(1, 64, 1, 2, 1, 0, 0, 0),
			"\xc0\x9e\x01\x00\x00\x00\x40\x00\x00\x00\x01\x00\x00\x00\x02\x00\x00\x00\x01\x00\x00\x00\x00\x00\x00\x00\x00\x00\x00\x00\x00\x00\x00\x00\x00\x00\x00\x00",
			"\x37\x2a\x7f\x54",
		},
		{
			bare(1<<28-1, 8192, 512, 8064, 128, 1<<28-1, 5, 1),
			"\xc0\x9e\xff\xff\xff\x0f\x00\x20\x00\x00\x00\x02\x00\x00\x80\x1f\x00\x00\x80\x00\x00\x00\xff\xff\xff\x0f\x05\x00\x00\x00\x00\x00\x00\x00\x00\x00\xf0\x3f",
			"\x84\x9a\xa4\x86",
		},
		{
			bare(0x030201, 0x0403, 0x0102, 0x0201, 0x42, 0x030100, 4, 0.3),
			"\xc0\x9e\x01\x02\x03\x00\x03\x04\x00\x00\x02\x01\x00\x00\x01\x02\x00\x00\x42\x00\x00\x00\x00\x01\x03\x00\x04\x00\x00\x00\x33\x33\x33\x33\x33\x33\xd3\x3f",
			"\x55\x34\xf1\x58",
		},
		{
			bare(0x0abcdef, 100, 10, 97, 3, 1, 2, tiny),
			"\xc0\x9e\xef\xcd\xab\x00\x64\x00\x00\x00\x0a\x00\x00\x00\x61\x00\x00\x00\x03\x00\x00\x00\x01\x00\x00\x00\x02\x00\x00\x00\x01\x00\x00\x00\x00\x00\x00\x00",
			"\xbc\x4c\x58\x5f",
		},
	} {
		want := slices.Concat([]byte(c.begin), make([]byte, 22), []byte(c.sum))
		if got := mustEncode(t, c.crown); !bytes.Equal(got, want) {
			t.Errorf("Encode(%+v) = %x, want %x", c.crown, got, want)
		}
		mustDecode(t, want, c.crown)
	}
}

func TestP16_1ThereAndBack(t *testing.T) {
	r := rand.New(rand.NewSource(2))
	for range 100000 {
		c := randomCrown(r)
		if !plainMay(c) {
			continue
		}
		b := mustEncode(t, c)
		if want := plainBlock(c); !bytes.Equal(b, want) {
			t.Errorf("Encode(%+v) = %x, want %x", c, b, want)
		}
		mustDecode(t, b, c)
	}
}

func TestP16_1GainIsStoredByItsBits(t *testing.T) {
	r := rand.New(rand.NewSource(3))
	l := gains()
	for range 10000 {
		l = append(l, r.Float64(), math.Float64frombits(r.Uint64()%(math.Float64bits(1)+1)))
	}
	for _, x := range l {
		c := with(func(c *Crown) { c.Gain = x })
		b := mustEncode(t, c)
		if got := binary.LittleEndian.Uint64(b[30:38]); got != math.Float64bits(x) {
			t.Errorf("Encode stores %v as %016x, want %016x", x, got, math.Float64bits(x))
		}
		mustDecode(t, b, c)
	}
}

func TestP16_1EncodeIsNewMemory(t *testing.T) {
	a, b := mustEncode(t, good()), mustEncode(t, good())
	whole := a[:cap(a)]
	for i := range whole {
		whole[i] = 0xff
	}
	if !bytes.Equal(b, plainBlock(good())) || !bytes.Equal(mustEncode(t, good()), plainBlock(good())) {
		t.Error("two blocks share memory")
	}
}

func TestP16_1DecodeLengths(t *testing.T) {
	long := slices.Concat(plainBlock(good()), plainBlock(good()), make([]byte, 200))
	for n := range len(long) + 1 {
		if n == api.Block {
			mustDecode(t, long[:n], good())
			continue
		}
		mustNotDecode(t, long[:n], api.ErrArg)
		// Nothing else that is wrong comes before it.
		mustNotDecode(t, make([]byte, n), api.ErrArg)
		mustNotDecode(t, bytes.Repeat([]byte{0xff}, n), api.ErrArg)
	}
	mustNotDecode(t, nil, api.ErrArg)
	// What is behind b, or before it, is not b's.
	mustDecode(t, append(plainBlock(good()), 1)[:64], good())
	mustDecode(t, append([]byte{1}, plainBlock(good())...)[1:], good())
}

func TestP16_1DecodeSingleBytes(t *testing.T) {
	b := plainBlock(good())
	for i := range b {
		for x := 1; x < 256; x++ {
			b[i] ^= byte(x)
			mustNotDecode(t, b, api.ErrSum)
			b[i] ^= byte(x)
		}
	}
	mustDecode(t, b, good())
}

func TestP16_1DecodeFourAdjacentBytes(t *testing.T) {
	r := rand.New(rand.NewSource(4))
	for range 50000 {
		b := plainBlock(good())
		mask, at := make([]byte, 4), r.Intn(61)
		r.Read(mask)
		for i, m := range mask {
			b[at+i] ^= m
		}
		if !bytes.Equal(mask, make([]byte, 4)) {
			mustNotDecode(t, b, api.ErrSum)
		}
	}
}

func TestP16_1DecodeOtherSums(t *testing.T) {
	b := plainBlock(good())
	s := tally.Sum(b[:60])
	for _, x := range []uint32{
		0, math.MaxUint32, ^s, s + 1, s - 1, s ^ 1<<31, tally.Sum(b), tally.Sum(b[:38]), tally.Sum(b[:56]), tally.Sum(b[2:60]),
		tally.Sum(nil), tally.Sum(b[:61]), tally.Sum(append(slices.Clone(b[:60]), 0, 0, 0, 0)),
	} {
		binary.LittleEndian.PutUint32(b[60:], x)
		mustNotDecode(t, b, api.ErrSum)
	}
	// The bytes in the other order.
	binary.BigEndian.PutUint32(b[60:], s)
	mustNotDecode(t, b, api.ErrSum)
	binary.LittleEndian.PutUint32(b[60:], s)
	mustDecode(t, b, good())
}

// TestP16_1DecodeSumComesFirst has blocks in which nothing is right.
func TestP16_1DecodeSumComesFirst(t *testing.T) {
	mustNotDecode(t, make([]byte, 64), api.ErrSum)
	mustNotDecode(t, bytes.Repeat([]byte{0xff}, 64), api.ErrSum)
	for at := range 60 {
		b := make([]byte, 64)
		b[at] = 0x55
		mustNotDecode(t, b, api.ErrSum)
		mustNotDecode(t, summed(b), api.ErrForm)
	}
	mustNotDecode(t, summed(make([]byte, 64)), api.ErrForm)
}

func TestP16_1DecodeMarks(t *testing.T) {
	b := plainBlock(good())
	for i, mark := range []byte{0xc0, 0x9e} {
		for x := range 256 {
			if byte(x) == mark {
				continue
			}
			b[i] = byte(x)
			mustNotDecode(t, summed(b), api.ErrForm)
		}
		b[i] = mark
	}
	b[0], b[1] = 0x9e, 0xc0
	mustNotDecode(t, summed(b), api.ErrForm)
	b[0], b[1] = 0xc0, 0x9e
	mustDecode(t, summed(b), good())
}

func TestP16_1DecodeZeroBytes(t *testing.T) {
	b := plainBlock(good())
	for at := 38; at < 60; at++ {
		for x := 1; x < 256; x++ {
			b[at] = byte(x)
			mustNotDecode(t, summed(b), api.ErrForm)
		}
		b[at] = 0
	}
	mustDecode(t, summed(b), good())
}

// TestP16_1DecodeInvalid has numbers of 32 bits, just and far beyond their
// limits, in each field.
func TestP16_1DecodeInvalid(t *testing.T) {
	for field, l := range [][]uint32{
		{0, 6, 1 << 28, 1<<28 + 77, 1 << 31, 1<<31 + 77, math.MaxUint32},
		{0, 42, 63, 8193, 1<<16 + 1000, 1 << 31, 1<<31 + 1000, math.MaxUint32},
		{0, 513, 1<<16 + 100, 1 << 31, 1<<31 + 100, math.MaxUint32},
		{0, 1, 998, 1000, 8192, 1<<16 + 40, 1<<31 - 1, 1 << 31, 1<<31 + 40, math.MaxUint32 - 2, math.MaxUint32 - 1, math.MaxUint32},
		{0, 129, 256 + 3, 1<<16 + 3, 1<<31 - 1, 1 << 31, 1<<31 + 3, math.MaxUint32 - 2, math.MaxUint32},
		{78, 1 << 28, 1 << 31, 1<<31 + 7, math.MaxUint32},
		{6, 7, 256, 1 << 16, 1 << 31, 1<<31 + 2, math.MaxUint32},
	} {
		for _, x := range l {
			b := plainBlock(good())
			binary.LittleEndian.PutUint32(b[2+4*field:], x)
			mustNotDecode(t, summed(b), api.ErrForm)
		}
	}
}

func TestP16_1DecodeBadGains(t *testing.T) {
	for _, x := range badGains() {
		mustNotDecode(t, plainBlock(with(func(c *Crown) { c.Gain = x })), api.ErrForm)
	}
}

func TestP16_1DecodeAgainstPlain(t *testing.T) {
	r := rand.New(rand.NewSource(5))
	var seen [api.ErrLost + 1]int
	for range 200000 {
		b := plainBlock(randomCrown(r))
		if r.Intn(2) == 0 {
			b[r.Intn(64)] = byte(anyOf(r, 0, 1, 2, 0x3f, 0x80, 0xff))
		}
		if r.Intn(2) == 0 {
			b = summed(b)
		}
		if r.Intn(50) == 0 {
			b = b[:r.Intn(64)]
		}
		want, wantError := plainDecode(b)
		seen[wantError]++
		if wantError == api.OK {
			mustDecode(t, b, want)
		} else {
			mustNotDecode(t, b, wantError)
		}
	}
	for _, e := range []api.Errno{api.OK, api.ErrArg, api.ErrSum, api.ErrForm} {
		if seen[e] < 100 {
			t.Errorf("only %d of the blocks are %v", seen[e], e)
		}
	}
}

func TestP16_1DecodeLeavesItsArgument(t *testing.T) {
	bad := plainBlock(good())
	bad[3] ^= 1
	for _, b := range [][]byte{plainBlock(good()), bad, summed(bad), make([]byte, 64), make([]byte, 5)} {
		whole := slices.Concat(b, []byte{1, 2, 3})
		Decode(whole[:len(b)])
		if !bytes.Equal(whole, slices.Concat(b, []byte{1, 2, 3})) {
			t.Errorf("Decode(%x) left %x", b, whole)
		}
	}
}
