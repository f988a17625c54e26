package leaf

import (
	"bytes"
	"encoding/binary"
	"math"
	"math/rand"
	"slices"
	"testing"

	"concertina/api"
	"concertina/tally"
)

const (
	head    = 16
	lastGen = 1<<31 - 1
)

// sizes is the lengths of data about which a frame changes.
func sizes() []int {
	l := []int{0, 1, 2, 3, 4, 11, 12, 13, 15, 16, 17, 31, 32, 33}
	for n := api.Block - head; n <= api.MaxData; n += api.Block {
		l = append(l, n-1, n, n+1)
	}
	return append(l, api.MaxData-1, api.MaxData)
}

func gens() []int {
	return []int{0, 1, 2, 127, 128, 255, 256, 0x1234, 1<<16 - 1, 1 << 16, 0x01020304, 1 << 28, 1<<30 + 1, lastGen - 1, lastGen}
}

// pattern is n bytes, none of them 0, that do not repeat soon.
func pattern(n int) []byte {
	b := make([]byte, n)
	for i := range b {
		b[i] = byte((i*i+7*i)%255 + 1)
	}
	return b
}

func randomBytes(r *rand.Rand, n int) []byte {
	b := make([]byte, n)
	r.Read(b)
	return b
}

// summed is b with the checksum that its first 12 bytes and n bytes of data
// have.
func summed(b []byte, n int) []byte {
	b = slices.Clone(b)
	binary.LittleEndian.PutUint32(b[12:], tally.Sum(slices.Concat(b[:12], b[head:head+n])))
	return b
}

// plainMake is the frame that the chapter describes, put together piece by
// piece.
func plainMake(kind byte, gen int, data []byte) []byte {
	b := []byte{0xc5, 0x7e, kind, 0}
	b = binary.LittleEndian.AppendUint32(b, uint32(gen))
	b = binary.LittleEndian.AppendUint32(b, uint32(len(data)))
	b = binary.LittleEndian.AppendUint32(b, tally.Sum(slices.Concat(b, data)))
	b = append(b, data...)
	for len(b)%api.Block != 0 {
		b = append(b, 0)
	}
	return b
}

// plainSize is Size as the chapter tells it, in its order.
func plainSize(b []byte) (int, api.Errno) {
	if len(b) < head {
		return 0, api.ErrShort
	}
	n := int64(binary.LittleEndian.Uint32(b[8:]))
	gen := int64(binary.LittleEndian.Uint32(b[4:]))
	if !bytes.HasPrefix(b, []byte{0xc5, 0x7e}) || b[3] != 0 || n > api.MaxData || gen > lastGen {
		return 0, api.ErrForm
	}
	count := 1
	for int64(count*api.Block) < head+n {
		count++
	}
	return count, api.OK
}

// plainOpen is Open as the chapter tells it, in its order.
func plainOpen(b []byte, kind byte) (int, []byte, api.Errno) {
	count, e := plainSize(b)
	if e != api.OK {
		return 0, nil, e
	}
	if len(b) > count*api.Block {
		return 0, nil, api.ErrLong
	}
	if len(b) < count*api.Block {
		return 0, nil, api.ErrShort
	}
	gen, n := int(binary.LittleEndian.Uint32(b[4:])), int(binary.LittleEndian.Uint32(b[8:]))
	data, rest := b[head:head+n], b[head+n:]
	if binary.LittleEndian.Uint32(b[12:]) != tally.Sum(slices.Concat(b[:12], data)) || bytes.Count(rest, []byte{0}) != len(rest) {
		return 0, nil, api.ErrSum
	}
	if b[2] != kind {
		return 0, nil, api.ErrForm
	}
	return gen, data, api.OK
}

func mustMake(t *testing.T, kind byte, gen int, data []byte) []byte {
	t.Helper()
	b, e := Make(kind, gen, data)
	if e != api.OK {
		t.Fatalf("Make(%d, %d, %d bytes) = %v", kind, gen, len(data), e)
	}
	return b
}

func mustNotMake(t *testing.T, gen, n int, want api.Errno) {
	t.Helper()
	if b, e := Make(5, gen, make([]byte, n)); e != want || len(b) != 0 {
		t.Errorf("Make(5, %d, %d bytes) = %d bytes, %v, want none, %v", gen, n, len(b), e, want)
	}
}

func mustOpen(t *testing.T, b []byte, kind byte, wantGen int, want []byte) {
	t.Helper()
	if gen, data, e := Open(b, kind); gen != wantGen || !bytes.Equal(data, want) || e != api.OK {
		t.Errorf("Open(%d bytes, %d) = %d, %d bytes, %v, want %d, %d bytes, OK", len(b), kind, gen, len(data), e, wantGen, len(want))
	}
}

func mustNotOpen(t *testing.T, b []byte, kind byte, want api.Errno) {
	t.Helper()
	if gen, data, e := Open(b, kind); gen != 0 || len(data) != 0 || e != want {
		t.Errorf("Open(%d bytes, %x.., %d) = %d, %d bytes, %v, want 0, none, %v", len(b), b[:min(len(b), head)], kind, gen, len(data), e, want)
	}
}

func mustSize(t *testing.T, b []byte, want int, wantError api.Errno) {
	t.Helper()
	if n, e := Size(b); n != want || e != wantError {
		t.Errorf("Size(%d bytes, %x..) = %d, %v, want %d, %v", len(b), b[:min(len(b), head)], n, e, want, wantError)
	}
}

// with is b with other bytes: places and values in turn.
func with(b []byte, l ...int) []byte {
	b = slices.Clone(b)
	for i := 0; i < len(l); i += 2 {
		b[l[i]] = byte(l[i+1])
	}
	return b
}

func TestP5_1BlocksKnown(t *testing.T) {
	for _, c := range []struct{ n, want int }{
		{0, 1}, {1, 1}, {47, 1}, {48, 1}, {49, 2}, {50, 2}, {111, 2}, {112, 2}, {113, 3}, {176, 3}, {177, 4},
		{4016, 63}, {4017, 64}, {4080, 64}, {4081, 65}, {api.MaxData - 1, 65}, {api.MaxData, 65},
		{api.MaxData + 1, 0}, {api.MaxData + 48, 0}, {1 << 13, 0}, {math.MaxInt32, 0}, {1 << 32, 0}, {1<<32 + 5, 0}, {math.MaxInt, 0}, {math.MaxInt - 14, 0},
		{-1, 0}, {-16, 0}, {-17, 0}, {-80, 0}, {math.MinInt32, 0}, {math.MinInt, 0},
	} {
		if got := Blocks(c.n); got != c.want {
			t.Errorf("Blocks(%d) = %d, want %d", c.n, got, c.want)
		}
	}
}

func TestP5_1BlocksAll(t *testing.T) {
	want := 1
	for n := range api.MaxData + 1 {
		if head+n > want*api.Block {
			want++
		}
		if got := Blocks(n); got != want {
			t.Errorf("Blocks(%d) = %d, want %d", n, got, want)
		}
	}
}

func TestP5_1MakeKnown(t *testing.T) {
	for _, c := range []struct {
		kind byte
		gen  int
		data string
		want []byte
	}{
		{0, 0, "", []byte{0xc5, 0x7e, 0, 0, 0, 0, 0, 0, 0, 0, 0, 0, 0x80, 0x47, 0xd3, 0xd4}},
		{255, lastGen, "", []byte{0xc5, 0x7e, 255, 0, 255, 255, 255, 127, 0, 0, 0, 0, 0x5a, 0x4e, 0x0f, 0x64}},
		{0x4e, 0x01020304, "\x07\x08\x09", []byte{0xc5, 0x7e, 0x4e, 0, 4, 3, 2, 1, 3, 0, 0, 0, 0xc4, 0x8b, 0x3b, 0x5e, 7, 8, 9}},
		{1, 1, "\x00", []byte{0xc5, 0x7e, 1, 0, 1, 0, 0, 0, 1, 0, 0, 0, 0xe0, 0x1c, 0xac, 0x46, 0}},
	} {
		want := append(c.want, make([]byte, api.Block-len(c.want))...)
		if got := mustMake(t, c.kind, c.gen, []byte(c.data)); !bytes.Equal(got, want) {
			t.Errorf("Make(%d, %d, %q) = %x, want %x", c.kind, c.gen, c.data, got, want)
		}
	}
}

func TestP5_1MakeMany(t *testing.T) {
	r := rand.New(rand.NewSource(1))
	check := func(kind byte, gen int, data []byte) {
		t.Helper()
		got := mustMake(t, kind, gen, data)
		if !bytes.Equal(got, plainMake(kind, gen, data)) {
			t.Errorf("Make(%d, %d, %d bytes) is not what the chapter says", kind, gen, len(data))
		}
		if len(got) != Blocks(len(data))*api.Block {
			t.Errorf("Make of %d bytes has %d bytes, and Blocks says %d", len(data), len(got), Blocks(len(data)))
		}
	}
	for _, n := range sizes() {
		for _, data := range [][]byte{make([]byte, n), bytes.Repeat([]byte{255}, n), pattern(n), randomBytes(r, n)} {
			check(byte(n), n, data)
		}
	}
	for kind := range 256 {
		check(byte(kind), kind, pattern(kind))
	}
	for _, gen := range gens() {
		check(3, gen, pattern(20))
	}
	for shift := range 31 {
		check(3, 1<<shift, nil)
		check(3, 1<<shift-1, nil)
	}
	for range 2000 {
		check(byte(r.Intn(256)), r.Intn(lastGen+1), randomBytes(r, r.Intn(api.MaxData+1)))
	}
}

func TestP5_1MakeInvalid(t *testing.T) {
	bad := []int{-1, -2, -lastGen, math.MinInt32, math.MinInt, lastGen + 1, lastGen + 2, 1<<32 - 1, 1 << 32, 1<<32 + 5, 1 << 62, math.MaxInt}
	for _, gen := range bad {
		for _, n := range []int{0, 1, api.MaxData, api.MaxData + 1, 1 << 16} {
			mustNotMake(t, gen, n, api.ErrArg)
		}
	}
	for _, gen := range gens() {
		for _, n := range []int{api.MaxData + 1, api.MaxData + 2, api.MaxData + api.Block, 1 << 16, 1 << 20} {
			mustNotMake(t, gen, n, api.ErrLong)
		}
	}
}

func TestP5_1MakeLeavesItsArgument(t *testing.T) {
	for _, n := range sizes() {
		whole := pattern(n + 300)
		data := whole[100 : 100+n]
		b := mustMake(t, 9, 77, data)
		if !bytes.Equal(whole, pattern(n+300)) {
			t.Fatalf("Make changed what stands in or beside %d bytes", n)
		}
		for i := range b[:cap(b)] {
			b[:cap(b)][i] ^= 0xff
		}
		if !bytes.Equal(whole, pattern(n+300)) {
			t.Fatalf("the frame of %d bytes shares memory with them", n)
		}
		if again := mustMake(t, 9, 77, data); !bytes.Equal(again, plainMake(9, 77, data)) {
			t.Fatalf("two frames of %d bytes share memory", n)
		}
	}
}

func TestP5_2OpenWhatMakeMade(t *testing.T) {
	r := rand.New(rand.NewSource(2))
	for _, n := range sizes() {
		for _, data := range [][]byte{make([]byte, n), bytes.Repeat([]byte{255}, n), pattern(n), randomBytes(r, n)} {
			mustOpen(t, mustMake(t, byte(n), n, data), byte(n), n, data)
		}
	}
	for _, gen := range gens() {
		mustOpen(t, mustMake(t, 200, gen, pattern(60)), 200, gen, pattern(60))
	}
	for kind := range 256 {
		b := mustMake(t, byte(kind), 5, pattern(100))
		for other := range 256 {
			if other == kind {
				mustOpen(t, b, byte(kind), 5, pattern(100))
			} else {
				mustNotOpen(t, b, byte(other), api.ErrForm)
			}
		}
	}
}

func TestP5_2OpenKnown(t *testing.T) {
	b := append([]byte{0xc5, 0x7e, 0x4e, 0, 4, 3, 2, 1, 3, 0, 0, 0, 0xc4, 0x8b, 0x3b, 0x5e, 7, 8, 9}, make([]byte, 45)...)
	mustOpen(t, b, 0x4e, 0x01020304, []byte{7, 8, 9})
	mustSize(t, b, 1, api.OK)
}

func TestP5_2OpenLengths(t *testing.T) {
	for _, n := range []int{0, 1, 47, 48, 49, 112, 113, api.MaxData} {
		good := mustMake(t, 1, 2, pattern(n))
		longer := append(slices.Clone(good), make([]byte, 2*api.Block)...)
		for size := range len(longer) + 1 {
			switch b := longer[:size]; {
			case size == len(good):
				mustOpen(t, b, 1, 2, pattern(n))
			case size > len(good):
				mustNotOpen(t, b, 1, api.ErrLong)
			default:
				mustNotOpen(t, b, 1, api.ErrShort)
			}
		}
	}
	mustNotOpen(t, nil, 0, api.ErrShort)
	mustNotOpen(t, []byte{}, 0xc5, api.ErrShort)
	// Fewer than 16 bytes are too short, whatever they are.
	for n := range head {
		mustNotOpen(t, make([]byte, n), 0, api.ErrShort)
		mustNotOpen(t, bytes.Repeat([]byte{255}, n), 255, api.ErrShort)
	}
}

// badHeaders is headers with one fault each, with a length that fits a block
// if it is not the fault.
func badHeaders(good []byte) [][]byte {
	var l [][]byte
	for x := range 256 {
		if x != 0xc5 {
			l = append(l, with(good, 0, x))
		}
		if x != 0x7e {
			l = append(l, with(good, 1, x))
		}
		if x != 0 {
			l = append(l, with(good, 3, x))
		}
		if x > 127 {
			l = append(l, with(good, 7, x))
		}
		if x > 0 {
			l = append(l, with(good, 10, x), with(good, 11, x))
		}
		if x > 16 {
			l = append(l, with(good, 8, 0, 9, x))
		}
	}
	// The length is one too great, and the greatest there is.
	return append(l, with(good, 8, 1, 9, 16), with(good, 8, 255, 9, 255, 10, 255, 11, 255), with(good, 4, 0, 5, 0, 6, 0, 7, 128), with(good, 4, 255, 5, 255, 6, 255, 7, 255))
}

func TestP5_2OpenBadHeader(t *testing.T) {
	good := mustMake(t, 5, 77, pattern(20))
	for _, b := range badHeaders(good) {
		mustNotOpen(t, b, 5, api.ErrForm)
		mustNotOpen(t, summed(b, 20), 5, api.ErrForm)
		// A bad header comes before a wrong number of bytes, a wrong sum and a
		// wrong kind, and behind too few bytes.
		mustNotOpen(t, b[:head], 6, api.ErrForm)
		mustNotOpen(t, append(slices.Clone(b), 1), 6, api.ErrForm)
		mustNotOpen(t, append(slices.Clone(b), make([]byte, 1<<17)...), 6, api.ErrForm)
		mustNotOpen(t, b[:head-1], 5, api.ErrShort)
	}
}

func TestP5_2OpenGoodHeader(t *testing.T) {
	good := mustMake(t, 5, 77, make([]byte, api.MaxData))
	for _, x := range []int{0, 1, 126, 127} {
		b := summed(with(good, 4, 255, 5, 255, 6, 255, 7, x), api.MaxData)
		mustOpen(t, b, 5, x<<24|0xffffff, make([]byte, api.MaxData))
	}
	// Each length in the header is that of as many bytes.
	for n := range api.MaxData + 1 {
		size := Blocks(n) * api.Block
		b := summed(with(good, 8, n%256, 9, n/256), n)[:size]
		mustOpen(t, b, 5, 77, make([]byte, n))
	}
}

func TestP5_2OpenBadSum(t *testing.T) {
	for _, n := range []int{0, 1, 30, 48, 49, 100, 112, api.MaxData} {
		good := mustMake(t, 5, 77, pattern(n))
		for at := range good {
			if slices.Contains([]int{0, 1, 3, 7, 8, 9, 10, 11}, at) {
				continue
			}
			for _, x := range []byte{1, 0x80, 0xff} {
				b := slices.Clone(good)
				b[at] ^= x
				mustNotOpen(t, b, 5, api.ErrSum)
				// A wrong sum comes before a wrong kind.
				mustNotOpen(t, b, 6, api.ErrSum)
				if at == 2 {
					mustNotOpen(t, b, b[2], api.ErrSum)
				}
			}
		}
		for bit := range 32 {
			b := slices.Clone(good)
			b[12+bit/8] ^= 1 << (bit % 8)
			mustNotOpen(t, b, 5, api.ErrSum)
		}
	}
}

// What the sum does not cover must be zero bytes, and what it covers may be
// anything.
func TestP5_2OpenBehindTheData(t *testing.T) {
	for _, n := range []int{0, 1, 30, 47, 49, 100, 111, 113, api.MaxData} {
		good := mustMake(t, 5, 77, pattern(n))
		for at := head + n; at < len(good); at++ {
			for x := 1; x < 256; x++ {
				mustNotOpen(t, summed(with(good, at, x), n), 5, api.ErrSum)
			}
		}
		for at := head; at < head+n; at++ {
			b := summed(with(good, at, 0), n)
			mustOpen(t, b, 5, 77, b[head:head+n])
		}
	}
}

// A frame whose checksum covers something else than the first 12 bytes and the
// data.
func TestP5_2OpenOtherSums(t *testing.T) {
	good := mustMake(t, 5, 77, pattern(20))
	for _, covered := range [][]byte{
		nil, good[:12], good[:head], good[head : head+20], good[2:12], good,
		slices.Concat(good[:12], good[head:]), slices.Concat(good[:12], make([]byte, 4), good[head:head+20]),
		slices.Concat(good[head:head+20], good[:12]),
	} {
		b := slices.Clone(good)
		binary.LittleEndian.PutUint32(b[12:], tally.Sum(covered))
		mustNotOpen(t, b, 5, api.ErrSum)
	}
	s := tally.Sum(slices.Concat(good[:12], good[head:head+20]))
	for _, x := range []uint32{^s, s + 1, 0, math.MaxUint32} {
		b := slices.Clone(good)
		binary.LittleEndian.PutUint32(b[12:], x)
		mustNotOpen(t, b, 5, api.ErrSum)
	}
	b := slices.Clone(good)
	binary.BigEndian.PutUint32(b[12:], s)
	mustNotOpen(t, b, 5, api.ErrSum)
}

func TestP5_2OpenLeavesItsArgument(t *testing.T) {
	for _, n := range sizes() {
		frame := plainMake(9, 77, pattern(n))
		whole := slices.Concat(pattern(100), frame, pattern(100))
		kept := slices.Clone(whole)
		b := whole[100 : 100+len(frame)]
		_, data, e := Open(b, 9)
		if size, f := Size(b); e != api.OK || f != api.OK || size != len(frame)/api.Block {
			t.Fatalf("%v, %v, %d", e, f, size)
		}
		for i := range data[:cap(data)] {
			data[:cap(data)][i] ^= 0xff
		}
		if !bytes.Equal(whole, kept) {
			t.Fatalf("the data, %d bytes, share memory with the frame", n)
		}
		mustOpen(t, b, 9, 77, pattern(n))
		// A frame that is wrong stays as it is, too.
		b[12] ^= 1
		kept[112] ^= 1
		mustNotOpen(t, b, 9, api.ErrSum)
		if !bytes.Equal(whole, kept) {
			t.Fatalf("Open changed a frame of %d bytes", n)
		}
	}
}

func TestP5_2Size(t *testing.T) {
	for _, n := range sizes() {
		b := mustMake(t, byte(n), n, pattern(n))
		for _, size := range []int{head, head + 1, api.Block - 1, api.Block, len(b) - 1, len(b)} {
			mustSize(t, b[:size], Blocks(n), api.OK)
		}
		mustSize(t, append(slices.Clone(b), pattern(500)...), Blocks(n), api.OK)
		// Only the beginning matters, without the checksum.
		c := append(slices.Clone(b[:12]), 1, 2, 3, 4)
		mustSize(t, c, Blocks(n), api.OK)
	}
	for n := range api.MaxData + 1 {
		mustSize(t, []byte{0xc5, 0x7e, 3, 0, 255, 255, 255, 127, byte(n), byte(n >> 8), 0, 0, 0, 0, 0, 0}, Blocks(n), api.OK)
	}
	for kind := range 256 {
		mustSize(t, []byte{0xc5, 0x7e, byte(kind), 0, 0, 0, 0, 0, 113, 0, 0, 0, 0, 0, 0, 0}, 3, api.OK)
	}
}

func TestP5_2SizeInvalid(t *testing.T) {
	good := mustMake(t, 5, 77, pattern(20))
	mustSize(t, nil, 0, api.ErrShort)
	for n := range head {
		mustSize(t, good[:n], 0, api.ErrShort)
		mustSize(t, bytes.Repeat([]byte{255}, n), 0, api.ErrShort)
	}
	for _, b := range badHeaders(good) {
		mustSize(t, b[:head], 0, api.ErrForm)
		mustSize(t, b, 0, api.ErrForm)
		mustSize(t, b[:head-1], 0, api.ErrShort)
	}
}

// spoilt is a frame with some random faults, of which the checksum may know.
func spoilt(r *rand.Rand) []byte {
	n := r.Intn(200)
	b := plainMake(byte(r.Intn(4)), r.Intn(lastGen+1), randomBytes(r, n))
	for range r.Intn(3) {
		at := r.Intn(len(b))
		if r.Intn(2) == 0 {
			at = r.Intn(head)
		}
		b[at] = []byte{0, 1, 127, 128, 255, byte(r.Intn(256))}[r.Intn(6)]
	}
	if r.Intn(2) == 0 {
		n = min(int(b[8])|int(b[9])<<8, len(b)-head)
		b = summed(b, n)
	}
	switch r.Intn(8) {
	case 0:
		b = b[:r.Intn(len(b))]
	case 1:
		b = append(b, make([]byte, r.Intn(100))...)
	case 2:
		b = b[:len(b)-len(b)%api.Block]
	}
	return b
}

func TestP5_2OpenAgainstPlain(t *testing.T) {
	r := rand.New(rand.NewSource(3))
	seen := map[api.Errno]int{}
	for range 200000 {
		b, kind := spoilt(r), byte(r.Intn(4))
		kept := slices.Clone(b)
		wantGen, want, wantError := plainOpen(b, kind)
		gen, data, e := Open(b, kind)
		if gen != wantGen || !bytes.Equal(data, want) || e != wantError {
			t.Fatalf("Open(%x, %d) = %d, %x, %v, want %d, %x, %v", b, kind, gen, data, e, wantGen, want, wantError)
		}
		wantSize, wantError := plainSize(b)
		mustSize(t, b, wantSize, wantError)
		if !bytes.Equal(b, kept) {
			t.Fatalf("%x has become %x", kept, b)
		}
		seen[e]++
	}
	for _, e := range []api.Errno{api.OK, api.ErrShort, api.ErrLong, api.ErrForm, api.ErrSum} {
		if seen[e] < 1000 {
			t.Errorf("%v came %d times only", e, seen[e])
		}
	}
}

func mustDetect(t *testing.T, good, bad []byte) {
	t.Helper()
	for _, kind := range []byte{good[2], bad[2]} {
		if gen, data, e := Open(bad, kind); e == api.OK || gen != 0 || len(data) != 0 {
			t.Fatalf("Open(%x, %d) = %d, %d bytes, %v, and it was made as %x", bad, kind, gen, len(data), e, good)
		}
	}
}

func TestP5_3SingleBytes(t *testing.T) {
	for _, n := range []int{0, 1, 20, 48, 49, 130} {
		good := mustMake(t, 5, 77, pattern(n))
		for at := range good {
			if at >= 8 && at < 12 {
				continue
			}
			for x := 1; x < 256; x++ {
				mustDetect(t, good, with(good, at, int(good[at])^x))
			}
		}
	}
}

// windows is where four adjacent bytes may lie that are changed, in a frame of
// so many bytes.
func windows(size int) []int {
	l := []int{0, 1, 2, 3, 4, 12}
	for at := head; at+4 <= size; at++ {
		l = append(l, at)
	}
	return l
}

func TestP5_3FourAdjacentBytes(t *testing.T) {
	r := rand.New(rand.NewSource(4))
	for _, n := range []int{0, 1, 2, 3, 20, 45, 46, 47, 48, 49, 113, 500, api.MaxData} {
		for _, data := range [][]byte{make([]byte, n), pattern(n), randomBytes(r, n)} {
			good := mustMake(t, byte(r.Intn(256)), r.Intn(lastGen+1), data)
			for _, at := range windows(len(good)) {
				for range 1 + 3000/len(good) {
					bad := slices.Clone(good)
					for i := range 4 {
						bad[at+i] = []byte{bad[at+i], bad[at+i], 0, 255, bad[at+i] ^ 0x80, byte(r.Intn(256))}[r.Intn(6)]
					}
					if !bytes.Equal(bad, good) {
						mustDetect(t, good, bad)
					}
				}
			}
		}
	}
}

// A CRC misses multiples of its polynomial, which is one bit longer than four
// bytes.
func TestP5_3Polynomial(t *testing.T) {
	for _, n := range []int{30, 48, 200} {
		good := mustMake(t, 5, 77, pattern(n))
		for _, at := range windows(len(good)) {
			for shift := range 32 {
				for _, x := range []uint32{0x741B8CD7 << shift, 0x741B8CD7 >> shift, 1 << 31 >> shift, math.MaxUint32 >> shift} {
					if x == 0 {
						continue
					}
					bad := slices.Clone(good)
					binary.BigEndian.PutUint32(bad[at:], binary.BigEndian.Uint32(bad[at:])^x)
					mustDetect(t, good, bad)
				}
			}
		}
	}
}

// Swapped, moved and lost bytes among the data.
func TestP5_3DataInDisorder(t *testing.T) {
	good := mustMake(t, 5, 77, pattern(200))
	for at := head; at+4 <= head+200; at++ {
		for _, order := range [][4]int{{1, 0, 2, 3}, {3, 1, 2, 0}, {1, 2, 3, 0}, {3, 0, 1, 2}, {3, 2, 1, 0}, {0, 0, 0, 0}} {
			bad := slices.Clone(good)
			for i, from := range order {
				bad[at+i] = good[at+from]
			}
			if !bytes.Equal(bad, good) {
				mustDetect(t, good, bad)
			}
		}
	}
}
