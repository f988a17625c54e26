package words

import (
	"bytes"
	"math/rand"
	"slices"
	"testing"

	"concertina/api"
	"concertina/depth"
)

// mustPack packs b, asks for all that holds for each result, and returns it.
func mustPack(t *testing.T, b []byte) []byte {
	t.Helper()
	whole := slices.Concat([]byte("before"), b, []byte("behind"))
	kept := slices.Clone(whole)
	packed := Pack(whole[6 : 6+len(b)])
	if !bytes.Equal(whole, kept) {
		t.Fatalf("Pack has changed %d bytes, %x..", len(b), begin(b))
	}
	if len(packed) == 0 || 8*len(packed) > 8*272+11*len(b) {
		t.Errorf("Pack(%d bytes, %x..) has %d bytes", len(b), begin(b), len(packed))
	}
	if !bytes.Equal(packed, Pack(b)) {
		t.Errorf("Pack(%d bytes, %x..) is not the same each time", len(b), begin(b))
	}
	mustUnpack(t, packed, len(b), b)
	// Unpack could be wrong in the same way as Pack.
	if again, e := plainUnpack(packed, len(b)); e != api.OK || !bytes.Equal(again, b) {
		t.Errorf("Pack(%d bytes, %x..) = %x.., which is %v", len(b), begin(b), begin(packed), e)
	}
	mustBeShort(t, b, packed)
	return packed
}

// mustBeShort asks that b is packed with the lengths that package depth finds,
// and with no more entries than they need. The chapter asks only for less than
// its bound, which would hold without any compression.
func mustBeShort(t *testing.T, b, packed []byte) {
	t.Helper()
	var count [256]int
	for _, x := range b {
		count[x]++
	}
	lengths, _ := depth.Lengths(count)
	if n := len(table(lengths)) + (depth.Cost(count, lengths)+7)/8; len(packed) != n {
		t.Errorf("Pack(%d bytes, %x..) has %d bytes, and %d would do", len(b), begin(b), len(packed), n)
	}
}

// letters is n bytes of a few kinds.
func letters(r *rand.Rand, n, kinds int) []byte {
	first, b := r.Intn(256), make([]byte, n)
	for i := range b {
		b[i] = byte(first + r.Intn(kinds))
	}
	return b
}

// steep is n bytes of which each is about x times as often as the next one.
func steep(r *rand.Rand, n int, x float64) []byte {
	names, b := r.Perm(256), make([]byte, n)
	for i := range b {
		y := 0
		for r.Float64()*x < 1 && y < 255 {
			y++
		}
		b[i] = byte(names[y])
	}
	return b
}

// times is bytes of which the i-th one comes as often as the i-th count says, in
// no order.
func times(r *rand.Rand, counts ...int) []byte {
	var b []byte
	for i, n := range counts {
		b = append(b, bytes.Repeat([]byte{byte(i * 91)}, n)...)
	}
	r.Shuffle(len(b), func(i, j int) { b[i], b[j] = b[j], b[i] })
	return b
}

func TestP8_2Known(t *testing.T) {
	for _, c := range []struct{ b, want string }{
		{"", "\x0f\x0f\x0f\x0f\x0f\x0f\x0f\x0f\x0f\x0f\x0f\x0f\x0f\x0f\x0f\x0f"},
		{"\x00\x00\x00", "\x10\x0f\x0f\x0f\x0f\x0f\x0f\x0f\x0f\x0f\x0f\x0f\x0f\x0f\x0f\x0f\x0e\x00"},
		{"\x01\x00\x01", "\x11\x0f\x0f\x0f\x0f\x0f\x0f\x0f\x0f\x0f\x0f\x0f\x0f\x0f\x0f\x0f\x0d\xa0"},
		// 1 is 0, 0 is 10, 2 is 11.
		{"\x01\x01\x00\x02\x01", "\x20\x10\x20\x0f\x0f\x0f\x0f\x0f\x0f\x0f\x0f\x0f\x0f\x0f\x0f\x0f\x0f\x0f\x0c\x2c"},
	} {
		if got := mustPack(t, []byte(c.b)); string(got) != c.want {
			t.Errorf("Pack(%x) = %x, want %x", c.b, got, c.want)
		}
	}
}

func TestP8_2Short(t *testing.T) {
	mustPack(t, nil)
	mustPack(t, []byte{})
	for x := range 256 {
		mustPack(t, []byte{byte(x)})
		mustPack(t, []byte{byte(x), 7})
		mustPack(t, []byte{byte(x), 255, 0})
	}
	// All that there is of six bytes, of four kinds.
	for x := range 1 << 12 {
		b := make([]byte, 6)
		for i := range b {
			b[i] = byte(x >> (2 * i) & 3 * 85)
		}
		mustPack(t, b)
	}
}

func TestP8_2AllLengths(t *testing.T) {
	r := rand.New(rand.NewSource(3))
	for n := range api.MaxData + 1 {
		var b []byte
		switch n % 3 {
		case 0:
			b = randomBytes(r, n)
		case 1:
			b = letters(r, n, 1+r.Intn(20))
		default:
			b = steep(r, n, 1.1+r.Float64())
		}
		mustPack(t, b)
		if n%8 < 2 || n < 100 {
			mustPack(t, bytes.Repeat([]byte{byte(n)}, n))
		}
	}
}

func TestP8_2MostData(t *testing.T) {
	r := rand.New(rand.NewSource(4))
	for _, n := range []int{api.MaxData - 1, api.MaxData} {
		for _, x := range []byte{0, 1, 128, 255} {
			mustPack(t, bytes.Repeat([]byte{x}, n))
		}
		for kinds := 1; kinds <= 256; kinds++ {
			mustPack(t, letters(r, n, kinds))
		}
		b := make([]byte, n)
		for i := range b {
			b[i] = byte(i)
		}
		mustPack(t, b)
	}
}

func TestP8_2TooLong(t *testing.T) {
	r := rand.New(rand.NewSource(5))
	for _, n := range []int{api.MaxData + 1, api.MaxData + 2, 2 * api.MaxData, 1 << 16, 1<<16 + 5, 1 << 20, 1<<20 + 1, 1 << 21} {
		for _, b := range [][]byte{make([]byte, n), randomBytes(r, n), letters(r, n, 3)} {
			if got := Pack(b); len(got) != 0 {
				t.Errorf("Pack(%d bytes, %x..) has %d bytes", n, begin(b), len(got))
			}
		}
	}
	mustPack(t, make([]byte, api.MaxData))
}

// Codes whose trees are too deep, and so have codewords of the greatest length.
func TestP8_2DeepCodes(t *testing.T) {
	r := rand.New(rand.NewSource(6))
	fibonacci := []int{1, 1, 2, 3, 5, 8, 13, 21, 34, 55, 89, 144, 233, 377, 610, 987}
	powers := []int{1, 1, 2, 4, 8, 16, 32, 64, 128, 256, 512, 1024, 2048}
	for n := range len(fibonacci) + 1 {
		mustPack(t, times(r, fibonacci[:n]...))
	}
	for n := range len(powers) + 1 {
		mustPack(t, times(r, powers[:n]...))
	}
	longest := 0
	for ones := range 240 {
		b := times(r, append(slices.Repeat([]int{1}, ones), 3, 9, 27, 81, 243, 729, 2187)...)
		lengths, _, _ := plainTable(mustPack(t, b))
		longest = max(longest, slices.Max(lengths[:]))
	}
	if longest != api.MaxLen {
		t.Errorf("no codeword had more than %d bits", longest)
	}
}

func TestP8_2Random(t *testing.T) {
	r := rand.New(rand.NewSource(7))
	for range 2000 {
		n := r.Intn(api.MaxData + 1)
		if r.Intn(2) == 0 {
			n = r.Intn(100)
		}
		mustPack(t, letters(r, n, 1+r.Intn(256)))
		mustPack(t, steep(r, n, 1+r.Float64()*r.Float64()))
	}
}

// Equal bytes give equal results, wherever they lie and whatever was packed
// before.
func TestP8_2Equal(t *testing.T) {
	r := rand.New(rand.NewSource(8))
	for range 500 {
		b := letters(r, r.Intn(api.MaxData+1), 1+r.Intn(40))
		first := Pack(b)
		Pack(randomBytes(r, 300))
		room := make([]byte, len(b), len(b)+1+r.Intn(5000))
		copy(room, b)
		if !bytes.Equal(Pack(room), first) {
			t.Fatalf("Pack(%d bytes, %x..) is not the same each time", len(b), begin(b))
		}
	}
}

func TestP8_2SharesNothing(t *testing.T) {
	r := rand.New(rand.NewSource(9))
	for range 500 {
		b := letters(r, r.Intn(api.MaxData+1), 1+r.Intn(256))
		kept := slices.Clone(b)
		packed := Pack(b)
		for i := range packed[:cap(packed)] {
			packed[:cap(packed)][i] ^= 0xff
		}
		if !bytes.Equal(b, kept) {
			t.Fatalf("Pack(%d bytes, %x..) shares their memory", len(b), begin(b))
		}
		mustPack(t, b)
	}
}

// What is hardest to keep within the bound: many byte values, each seldom, with
// a table of as many entries as can be.
func TestP8_2Worst(t *testing.T) {
	r := rand.New(rand.NewSource(10))
	for used := range 257 {
		var b []byte
		for i := range used {
			b = append(b, bytes.Repeat([]byte{byte(i * 171)}, 1+i%2*r.Intn(20))...)
		}
		mustPack(t, b[:min(len(b), api.MaxData)])
		mustPack(t, times(r, slices.Repeat([]int{1, 9}, used/2)...))
	}
}
