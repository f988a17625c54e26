package lz

import (
	"bytes"
	"math"
	"math/rand"
	"slices"
	"testing"

	"concertina/api"
)

// mustPack packs b, asks for all that holds for each result, and returns it.
func mustPack(t *testing.T, b []byte) []byte {
	t.Helper()
	whole := slices.Concat(pattern(20), b, pattern(20))
	kept := slices.Clone(whole)
	packed := Pack(whole[20 : 20+len(b)])
	if !bytes.Equal(whole, kept) {
		t.Fatalf("Pack has changed %d bytes, %x..", len(b), begin(b))
	}
	if n := Most(len(b)); len(packed) == 0 || len(packed) > n {
		t.Errorf("Pack(%d bytes, %x..) has %d bytes, and Most says %d", len(b), begin(b), len(packed), n)
	}
	if !bytes.Equal(packed, Pack(b)) {
		t.Errorf("Pack(%d bytes, %x..) is not the same each time", len(b), begin(b))
	}
	mustUnpack(t, packed, len(b), b)
	// Unpack could be wrong in the same way as Pack.
	if again, e := plainUnpack(packed, len(b)); e != api.OK || !bytes.Equal(again, b) {
		t.Errorf("Pack(%d bytes, %x..) = %x.., which is %v", len(b), begin(b), begin(packed), e)
	}
	return packed
}

// letters is n bytes of a few kinds.
func letters(r *rand.Rand, n, kinds int) []byte {
	b := make([]byte, n)
	for i := range b {
		b[i] = byte('a' + r.Intn(kinds))
	}
	return b
}

// copies is n bytes of which many are copied from before.
func copies(r *rand.Rand, n, most int) []byte {
	b := randomBytes(r, 1+r.Intn(most))
	for len(b) < n {
		if r.Intn(2) == 0 {
			b = append(b, randomBytes(r, r.Intn(most))...)
			continue
		}
		from := r.Intn(len(b))
		b = append(b, b[from:min(len(b), from+1+r.Intn(most))]...)
	}
	return b[:n]
}

func TestP6_2MostKnown(t *testing.T) {
	for _, c := range []struct{ n, want int }{
		{0, 16}, {1, 17}, {15, 31}, {254, 270}, {255, 272}, {256, 273}, {509, 526}, {510, 528}, {511, 529}, {4079, 4110}, {4080, 4112}, {4095, 4127}, {api.MaxData, 4128},
		{api.MaxData + 1, 0}, {api.MaxData + 2, 0}, {2 * api.MaxData, 0}, {1 << 16, 0}, {math.MaxInt32, 0}, {1 << 32, 0}, {math.MaxInt - 16, 0}, {math.MaxInt, 0},
		{-1, 0}, {-2, 0}, {-15, 0}, {-16, 0}, {-17, 0}, {-255, 0}, {math.MinInt32, 0}, {math.MinInt, 0},
	} {
		if got := Most(c.n); got != c.want {
			t.Errorf("Most(%d) = %d, want %d", c.n, got, c.want)
		}
	}
	more := 0
	for n := range api.MaxData + 1 {
		if n > 0 && n%255 == 0 {
			more++
		}
		if got := Most(n); got != n+more+16 {
			t.Errorf("Most(%d) = %d, want %d", n, got, n+more+16)
		}
	}
}

func TestP6_2PackShort(t *testing.T) {
	mustPack(t, nil)
	mustPack(t, []byte{})
	for x := range 256 {
		mustPack(t, []byte{byte(x)})
	}
	// All that there is of up to ten bytes, of two kinds.
	for n := range 11 {
		for x := range 1 << n {
			b := make([]byte, n)
			for i := range b {
				b[i] = byte(x >> i & 1)
			}
			mustPack(t, b)
		}
	}
}

func TestP6_2PackAllLengths(t *testing.T) {
	r := rand.New(rand.NewSource(3))
	for n := range api.MaxData + 1 {
		mustPack(t, randomBytes(r, n))
		mustPack(t, pattern(n))
		mustPack(t, copies(r, n, 1+r.Intn(300)))
		mustPack(t, letters(r, n, 1+r.Intn(6)))
	}
}

func TestP6_2PackPeriods(t *testing.T) {
	r := rand.New(rand.NewSource(4))
	for period := 1; period <= api.MaxData; period += 1 + period/20 {
		for _, n := range []int{period + 3, period + 4, period + 12, period + 19, period + 30, 2 * period, 2*period + 300, 1000, api.MaxData} {
			n = min(n, api.MaxData)
			b := bytes.Repeat(randomBytes(r, period), n/period+1)[:n]
			packed := mustPack(t, b)
			if n >= period+100 && len(packed) >= n-50 {
				t.Errorf("%d bytes, the same after %d, have become %d", n, period, len(packed))
			}
		}
	}
}

// Lengths about those that take another byte, of literals and of matches.
func TestP6_2PackLengths(t *testing.T) {
	r := rand.New(rand.NewSource(5))
	for _, literals := range []int{0, 1, 14, 15, 16, 268, 269, 270, 271, 524, 525, 526, 780} {
		for _, size := range []int{1, 3, 4, 5, 17, 18, 19, 20, 272, 273, 274, 275, 528, 529, 530} {
			for _, end := range []int{0, 1, 4, 5, 6, 7, 8, 11, 12, 13, 15, 270} {
				start := randomBytes(r, 600)
				mustPack(t, slices.Concat(start, randomBytes(r, literals), start[:size], randomBytes(r, end)))
				mustPack(t, slices.Concat(start, randomBytes(r, literals), bytes.Repeat([]byte{3}, size+1), randomBytes(r, end)))
			}
		}
	}
}

// What is hardest to keep within Most: matches that save as little as possible
// between literals that need as much as possible.
func TestP6_2PackWorst(t *testing.T) {
	r := rand.New(rand.NewSource(6))
	for _, literals := range []int{0, 1, 2, 3, 13, 14, 15, 16, 255, 269, 270, 271, 525, 1000} {
		for _, size := range []int{4, 5, 18, 19, 20, 273, 274} {
			b := randomBytes(r, size)
			for len(b) < api.MaxData {
				b = slices.Concat(b, randomBytes(r, literals), b[:size])
			}
			mustPack(t, b[:api.MaxData])
		}
	}
}

func TestP6_2PackRandom(t *testing.T) {
	r := rand.New(rand.NewSource(7))
	for range 5000 {
		n := r.Intn(api.MaxData + 1)
		if r.Intn(2) == 0 {
			n = r.Intn(100)
		}
		mustPack(t, copies(r, n, 1+r.Intn(60)))
		mustPack(t, letters(r, n, 1+r.Intn(30)))
	}
}

func TestP6_2PackTooLong(t *testing.T) {
	for _, n := range []int{api.MaxData + 1, api.MaxData + 2, 2 * api.MaxData, 1 << 16, 1<<16 + 5, 1 << 20} {
		if got := Pack(make([]byte, n)); len(got) != 0 {
			t.Errorf("Pack of %d zero bytes has %d bytes", n, len(got))
		}
		if got := Pack(pattern(n)); len(got) != 0 {
			t.Errorf("Pack of %d bytes has %d bytes", n, len(got))
		}
	}
	mustPack(t, make([]byte, api.MaxData))
}

// Equal bytes give equal results, wherever they lie and whatever was packed
// before.
func TestP6_2PackEqual(t *testing.T) {
	r := rand.New(rand.NewSource(8))
	for range 500 {
		b := copies(r, r.Intn(api.MaxData+1), 1+r.Intn(40))
		first := Pack(b)
		Pack(randomBytes(r, 300))
		room := make([]byte, len(b), len(b)+1+r.Intn(5000))
		copy(room, b)
		if !bytes.Equal(Pack(room), first) {
			t.Fatalf("Pack(%d bytes, %x..) is not the same each time", len(b), begin(b))
		}
	}
}

func TestP6_2PackSharesNothing(t *testing.T) {
	r := rand.New(rand.NewSource(9))
	for range 500 {
		b := copies(r, r.Intn(api.MaxData+1), 1+r.Intn(200))
		kept := slices.Clone(b)
		packed := Pack(b)
		for i := range packed[:cap(packed)] {
			packed[:cap(packed)][i] ^= 0xff
		}
		if !bytes.Equal(b, kept) {
			t.Fatalf("Pack(%d bytes, %x..) shares their memory", len(b), begin(b))
		}
		mustPack(t, b)
	}
}

// ends is how many bytes before the end of the data the last match begins and
// ends, or false if there is none.
func ends(packed []byte, n int) (int, int, bool) {
	at, place := 0, 0
	start, end, some := 0, 0, false
	for {
		count, more, _ := plainLength(int(packed[at]>>4), packed[at+1:])
		token := packed[at]
		at += 1 + more + count
		place += count
		if at == len(packed) {
			return start, end, some
		}
		size, more, _ := plainLength(int(token&15), packed[at+2:])
		at += 2 + more
		start, end, some = n-place, n-place-size-4, true
		place += size + 4
	}
}

// Other decoders of the format want a block to end so.
func TestP6_2PackEndsAsTheFormatWants(t *testing.T) {
	r := rand.New(rand.NewSource(10))
	matches := 0
	for n := range api.MaxData + 1 {
		for _, b := range [][]byte{make([]byte, n), letters(r, n, 2), bytes.Repeat([]byte("abcdefg"), n/7+1)[:n], copies(r, n, 20)} {
			start, end, some := ends(mustPack(t, b), n)
			if !some {
				continue
			}
			matches++
			if start < 12 || end < 5 {
				t.Errorf("Pack(%d bytes, %x..): the last match begins %d bytes before the end, and ends %d before it", n, begin(b), start, end)
			}
		}
	}
	if matches < 3*api.MaxData {
		t.Errorf("only %d of the results have a match", matches)
	}
}

func mustPackEqualBytes(t *testing.T, x byte, n int) {
	t.Helper()
	packed := mustPack(t, bytes.Repeat([]byte{x}, n))
	if n >= 64 && len(packed) > n/4+16 {
		t.Errorf("%d bytes %d have become %d, which are more than %d", n, x, len(packed), n/4+16)
	}
}

func TestP6_3EqualBytes(t *testing.T) {
	for n := range api.MaxData + 1 {
		mustPackEqualBytes(t, 0, n)
		mustPackEqualBytes(t, byte(n), n)
		mustPackEqualBytes(t, 255, n)
	}
	for x := range 256 {
		for _, n := range []int{64, 65, 66, 67, 68, 127, 128, 129, 270, 1024, api.MaxData - 1, api.MaxData} {
			mustPackEqualBytes(t, byte(x), n)
		}
	}
}
