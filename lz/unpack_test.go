package lz

import (
	"bytes"
	"encoding/binary"
	"math"
	"math/rand"
	"slices"
	"testing"

	"concertina/api"
)

// pattern is n bytes that do not repeat soon.
func pattern(n int) []byte {
	b := make([]byte, n)
	for i := range b {
		b[i] = byte((i*i+7*i)%255 + 1)
	}
	return b
}

// extended is what stands behind a token for a length of n.
func extended(n int) []byte {
	if n < 15 {
		return nil
	}
	return append(bytes.Repeat([]byte{255}, (n-15)/255), byte((n-15)%255))
}

// last is the sequence of literals alone.
func last(literals []byte) []byte {
	return slices.Concat([]byte{byte(min(len(literals), 15) << 4)}, extended(len(literals)), literals)
}

// matching is the sequence of literals and a match of size bytes.
func matching(literals []byte, offset, size int) []byte {
	b := last(literals)
	b[0] |= byte(min(size-4, 15))
	b = binary.LittleEndian.AppendUint16(b, uint16(offset))
	return append(b, extended(size-4)...)
}

// plainLength is a length that begins in a token and goes on in b, and how many
// bytes of b it has, or false.
func plainLength(start int, b []byte) (int, int, bool) {
	if start != 15 {
		return start, 0, true
	}
	for i, x := range b {
		start += int(x)
		if x != 255 {
			return start, i + 1, true
		}
	}
	return 0, 0, false
}

// plainUnpack is Unpack as the chapter tells it, in its order.
func plainUnpack(b []byte, n int) ([]byte, api.Errno) {
	if n < 0 || n > api.MaxData {
		return nil, api.ErrArg
	}
	var out []byte
	at := 0
	for {
		if at == len(b) {
			return nil, api.ErrShort
		}
		token := int(b[at])
		count, more, ok := plainLength(token/16, b[at+1:])
		at += 1 + more
		if !ok || count > len(b)-at {
			return nil, api.ErrShort
		}
		literals := b[at : at+count]
		at += count
		if at == len(b) {
			switch total := len(out) + count; {
			case total > n:
				return nil, api.ErrLong
			case total < n:
				return nil, api.ErrShort
			}
			return append(out, literals...), api.OK
		}
		if at+1 == len(b) {
			return nil, api.ErrShort
		}
		offset := int(b[at]) + 256*int(b[at+1])
		size, more, ok := plainLength(token%16, b[at+2:])
		at += 2 + more
		if !ok {
			return nil, api.ErrShort
		}
		if len(out)+count > n {
			return nil, api.ErrLong
		}
		out = append(out, literals...)
		if offset == 0 || offset > len(out) {
			return nil, api.ErrForm
		}
		if len(out)+size+4 > n {
			return nil, api.ErrLong
		}
		from := len(out) - offset
		for i := range size + 4 {
			out = append(out, out[from+i])
		}
	}
}

// begin is the start of b, for messages.
func begin(b []byte) []byte {
	return b[:min(len(b), 40)]
}

func mustUnpack(t *testing.T, b []byte, n int, want []byte) {
	t.Helper()
	if got, e := Unpack(b, n); e != api.OK || !bytes.Equal(got, want) {
		t.Errorf("Unpack(%d bytes, %x.., %d) = %d bytes, %x.., %v, want %d bytes, %x.., OK", len(b), begin(b), n, len(got), begin(got), e, len(want), begin(want))
	}
}

func mustNotUnpack(t *testing.T, b []byte, n int, want api.Errno) {
	t.Helper()
	if got, e := Unpack(b, n); e != want || len(got) != 0 {
		t.Errorf("Unpack(%d bytes, %x.., %d) = %d bytes, %v, want none, %v", len(b), begin(b), n, len(got), e, want)
	}
}

// mustBeExact unpacks b, which has want in it, with all wrong lengths nearby.
func mustBeExact(t *testing.T, b, want []byte) {
	t.Helper()
	n := len(want)
	mustUnpack(t, b, n, want)
	if n > 0 {
		mustNotUnpack(t, b, n-1, api.ErrLong)
		mustNotUnpack(t, b, 0, api.ErrLong)
	}
	if n < api.MaxData {
		mustNotUnpack(t, b, n+1, api.ErrShort)
		mustNotUnpack(t, b, api.MaxData, api.ErrShort)
	}
}

func TestP6_1Known(t *testing.T) {
	for _, c := range []struct {
		b, want string
	}{
		{"\x10a", "a"},
		{"\x00", ""},
		{"\x0f", ""},
		{"\x35abc", "abc"},
		{"\xe0abcdefghijklmn", "abcdefghijklmn"},
		{"\xf0\x00abcdefghijklmno", "abcdefghijklmno"},
		{"\xff\x01abcdefghijklmnop", "abcdefghijklmnop"},
		{"\x10a\x01\x00\x00", "aaaaa"},
		{"\x11a\x01\x00\x10b", "aaaaaab"},
		{"\x20ab\x02\x00\x20cd", "abababcd"},
		{"\x20ab\x01\x00\x00", "abbbbb"},
		{"\x51abcde\x04\x00\x00", "abcdebcdeb"},
		{"\x30abc\x03\x00\x22de\x01\x00\x00", "abcabcadeeeeeee"},
		{"\x10a\x01\x00\x00\x05\x00\x00", "aaaaaaaaa"},
		{"\x20ab\x02\x00\x01\x03\x00\x20yz", "abababbabbayz"},
		{"\x1ea\x01\x00\x00", "aaaaaaaaaaaaaaaaaaa"},
		{"\x1fa\x01\x00\x00\x00", "aaaaaaaaaaaaaaaaaaaa"},
		{"\x1fa\x01\x00\x02\x00", "aaaaaaaaaaaaaaaaaaaaaa"},
	} {
		mustBeExact(t, []byte(c.b), []byte(c.want))
	}
}

func TestP6_1Arguments(t *testing.T) {
	for _, n := range []int{-1, -2, -4, -api.MaxData, math.MinInt32, math.MinInt, api.MaxData + 1, api.MaxData + 2, 2 * api.MaxData, math.MaxInt32, 1 << 32, math.MaxInt} {
		for _, b := range [][]byte{nil, {}, {0}, {0x10, 'a'}, {0x10}, {0, 0, 0}, last(make([]byte, api.MaxData+1)), last(make([]byte, 2*api.MaxData))} {
			mustNotUnpack(t, b, n, api.ErrArg)
		}
	}
	for n := range api.MaxData + 1 {
		mustNotUnpack(t, nil, n, api.ErrShort)
		mustNotUnpack(t, []byte{}, n, api.ErrShort)
		if n > 0 {
			mustNotUnpack(t, []byte{0}, n, api.ErrShort)
		}
	}
	mustUnpack(t, []byte{0}, 0, nil)
	mustUnpack(t, last(pattern(api.MaxData)), api.MaxData, pattern(api.MaxData))
	mustNotUnpack(t, last(make([]byte, api.MaxData+1)), api.MaxData, api.ErrLong)
}

func TestP6_1Literals(t *testing.T) {
	for n := range api.MaxData + 1 {
		b := last(pattern(n))
		mustBeExact(t, b, pattern(n))
		// The last sequence has no match, whatever its token says.
		b[0] |= byte(n%15 + 1)
		mustUnpack(t, b, n, pattern(n))
	}
	for _, n := range []int{0, 1, 14, 15, 16, 269, 270, 271, 524, 525, 526, 4094, api.MaxData} {
		b := slices.Concat(matching(pattern(n), max(n-1, 1), 4), last([]byte("end")))
		want := slices.Concat(pattern(n), repeatPlainly(pattern(n), max(n-1, 1), 4), []byte("end"))
		switch {
		case n == 0:
			mustNotUnpack(t, b, 7, api.ErrForm)
		case len(want) > api.MaxData:
			mustNotUnpack(t, b, api.MaxData, api.ErrLong)
		default:
			mustBeExact(t, b, want)
		}
	}
}

// repeatPlainly is the size bytes behind b that repeat what lies offset bytes
// before.
func repeatPlainly(b []byte, offset, size int) []byte {
	if offset > len(b) {
		return nil
	}
	return bytes.Repeat(b[len(b)-offset:], size/offset+1)[:size]
}

func TestP6_1MatchLengths(t *testing.T) {
	start := pattern(100)
	for _, offset := range []int{1, 2, 3, 4, 5, 7, 16, 100} {
		for size := 4; size <= api.MaxData-100; size++ {
			b := slices.Concat(matching(start, offset, size), last(nil))
			mustUnpack(t, b, 100+size, slices.Concat(start, repeatPlainly(start, offset, size)))
		}
		for _, size := range []int{4, 5, 6, 18, 19, 20, 273, 274, 275, 528, 529, 530, api.MaxData - 101} {
			b := matching(start, offset, size)
			want := slices.Concat(start, repeatPlainly(start, offset, size))
			mustBeExact(t, slices.Concat(b, last(nil)), want)
			mustBeExact(t, slices.Concat(b, last([]byte{7})), append(want, 7))
		}
		mustNotUnpack(t, slices.Concat(matching(start, offset, api.MaxData-99), last(nil)), api.MaxData, api.ErrLong)
	}
}

func TestP6_1Offsets(t *testing.T) {
	for _, n := range []int{0, 1, 2, 3, 255, 256, 257, 1000, api.MaxData - 4} {
		start := pattern(n)
		for _, offset := range []int{0, 1, 2, 3, 4, 254, 255, 256, 257, 258, 512, 999, 1000, 1001, api.MaxData - 5, api.MaxData - 4, api.MaxData - 3, api.MaxData, 1 << 12, 1<<15 - 1, 1 << 15, 1<<16 - 1} {
			b := slices.Concat(matching(start, offset, 4), last(nil))
			if offset == 0 || offset > n {
				mustNotUnpack(t, b, min(n+4, api.MaxData), api.ErrForm)
				// This comes before a match that is too long.
				mustNotUnpack(t, b, n, api.ErrForm)
				continue
			}
			mustBeExact(t, b, slices.Concat(start, repeatPlainly(start, offset, 4)))
		}
	}
	// The literals of the sequence count, and what came before them.
	b := slices.Concat(matching([]byte("ab"), 1, 4), matching([]byte("cd"), 8, 4), last(nil))
	mustBeExact(t, b, []byte("abbbbbcdabbb"))
	b = slices.Concat(matching([]byte("ab"), 1, 4), matching([]byte("cd"), 9, 4), last(nil))
	mustNotUnpack(t, b, 12, api.ErrForm)
}

// Every beginning of a compressed form is too short, also if what comes behind
// it in memory is what it misses. (It can end where a last sequence ends: then
// the result is too short.)
func TestP6_1Cut(t *testing.T) {
	for _, c := range []struct {
		b []byte
		n int
	}{
		{last(pattern(3)), 3},
		{last(pattern(14)), 14},
		{last(pattern(15)), 15},
		{last(pattern(525)), 525},
		{last(pattern(600)), 600},
		{slices.Concat(matching(pattern(3), 2, 4), last(nil)), 7},
		{slices.Concat(matching(pattern(20), 20, 19), last(pattern(5))), 44},
		{slices.Concat(matching(pattern(20), 20, 1000), matching(nil, 5, 529), matching(pattern(300), 280, 274), last(pattern(15))), 2138},
	} {
		if e := mustAgree(t, c.b, c.n); e != api.OK {
			t.Errorf("%x.. with %d bytes in it is %v", begin(c.b), c.n, e)
		}
		for size := range c.b {
			mustNotUnpack(t, c.b[:size], c.n, api.ErrShort)
			mustNotUnpack(t, slices.Clone(c.b[:size]), c.n, api.ErrShort)
		}
	}
}

func TestP6_1Order(t *testing.T) {
	for _, c := range []struct {
		b    string
		n    int
		want api.Errno
	}{
		// What is missing comes first: in the literals, the offset, the match.
		{"\x20a", 0, api.ErrShort},
		{"\xf0", 0, api.ErrShort},
		{"\xf0\xff\xff", 0, api.ErrShort},
		{"\x11a\x00", 0, api.ErrShort},
		{"\x1fa\x00\x00", 0, api.ErrShort},
		{"\x1fa\x00\x00\xff", 0, api.ErrShort},
		{"\x1fa\x09\x00", 1, api.ErrShort},
		{"\x1fa\x01\x00", 1, api.ErrShort},
		// Then come too many literals, the offset, too long a match.
		{"\x11a\x00\x00", 0, api.ErrLong},
		{"\x11a\x09\x00", 0, api.ErrLong},
		{"\x11a\x01\x00", 0, api.ErrLong},
		{"\x11a\x00\x00", 1, api.ErrForm},
		{"\x11a\x02\x00", 1, api.ErrForm},
		{"\x11a\x00\x01", 1, api.ErrForm},
		{"\x11a\x01\x00", 1, api.ErrLong},
		{"\x11a\x01\x00", 5, api.ErrLong},
		{"\x11a\x01\x00", 6, api.ErrShort},
		{"\x00\x01\x00", 0, api.ErrForm},
		{"\x00\x00\x00", 9, api.ErrForm},
		// A sequence comes before all that is behind it.
		{"\x10a\x00\x00\x20", 9, api.ErrForm},
		{"\x10a\x01\x00\x20", 4, api.ErrLong},
		{"\x10a\x01\x00\x20", 5, api.ErrShort},
		{"\x20ab\x01\x00\xf0", 1, api.ErrLong},
		{"\x10a\x01\x00\x10b\x00\x00\x20", 6, api.ErrForm},
		{"\x10a\x01\x00\x10b\x00\x00\x20", 5, api.ErrLong},
		{"\x10a\x01\x00\x10b\x01", 4, api.ErrLong},
		{"\x10a\x01\x00\x10b\x01", 5, api.ErrShort},
		{"\x10a\x01\x00\x10b\x01\x00\x00", 9, api.ErrLong},
		{"\x10a\x01\x00\x10b\x01\x00\x00", 11, api.ErrShort},
	} {
		mustNotUnpack(t, []byte(c.b), c.n, c.want)
	}
}

// Lengths that are as great as a number of 32 bits, and a little greater, must
// not pass for small ones.
func TestP6_1GreatLengths(t *testing.T) {
	for _, total := range []int64{1 << 31, 1<<31 + 4, 1 << 32, 1<<32 + 1, 1<<32 + 15} {
		more := total - 15
		full := bytes.Repeat([]byte{255}, int(more/255))
		length := append(full, byte(more%255))
		literals := slices.Concat([]byte{0xf0}, length, []byte("abcdefghijklmnop"))
		match := slices.Concat([]byte("\x1fa\x01\x00"), length, []byte{0})
		for _, n := range []int{0, 16, api.MaxData} {
			mustNotUnpack(t, literals, n, api.ErrShort)
			mustNotUnpack(t, match[:len(match)-2], n, api.ErrShort)
			mustNotUnpack(t, match, n, api.ErrLong)
		}
	}
	zeros := make([]byte, 1<<20)
	for _, n := range []int{0, 1, api.MaxData} {
		mustNotUnpack(t, last(zeros), n, api.ErrLong)
		mustNotUnpack(t, matching(zeros, 1, 4), n, api.ErrLong)
		mustNotUnpack(t, zeros, n, api.ErrForm)
	}
}

// All short series of bytes that matter to the decoder.
func TestP6_1AllShort(t *testing.T) {
	alphabet := []byte{0x00, 0x01, 0x02, 0x0f, 0x10, 0x1f, 0x21, 0xf0, 0xff}
	var check func(b []byte)
	check = func(b []byte) {
		for _, n := range []int{0, 1, 2, 5, 6, 7, 10, 16, 20} {
			mustAgree(t, b, n)
		}
		if len(b) == 5 || t.Failed() {
			return
		}
		for _, x := range alphabet {
			check(append(slices.Clone(b), x))
		}
	}
	check(nil)
}

// mustAgree compares Unpack with the plain one.
func mustAgree(t *testing.T, b []byte, n int) api.Errno {
	t.Helper()
	want, e := plainUnpack(b, n)
	if e == api.OK {
		mustUnpack(t, b, n, want)
	} else {
		mustNotUnpack(t, b, n, e)
	}
	return e
}

// someForm is a compressed form of sequences that need not be what Pack makes,
// and with how many bytes they are in it.
func someForm(r *rand.Rand) ([]byte, int) {
	var b []byte
	n := 0
	for range r.Intn(5) {
		literals := randomBytes(r, someSize(r))
		n += len(literals)
		offset, size := 1+r.Intn(max(n, 1)), 4+someSize(r)
		if r.Intn(30) == 0 {
			offset = []int{0, n + 1, 1<<16 - 1}[r.Intn(3)]
		}
		b = append(b, matching(literals, offset, size)...)
		n += size
	}
	literals := randomBytes(r, someSize(r))
	return append(b, last(literals)...), n + len(literals)
}

func someSize(r *rand.Rand) int {
	return []int{0, 1, r.Intn(14), 14, 15, 16, r.Intn(260), 269, 270, 271, r.Intn(1000)}[r.Intn(11)]
}

func randomBytes(r *rand.Rand, n int) []byte {
	b := make([]byte, n)
	r.Read(b)
	return b
}

func TestP6_1AgainstPlain(t *testing.T) {
	r := rand.New(rand.NewSource(1))
	seen := map[api.Errno]int{}
	for range 100000 {
		b, n := someForm(r)
		switch r.Intn(6) {
		case 0:
			b = b[:r.Intn(len(b)+1)]
		case 1:
			b = append(b, randomBytes(r, r.Intn(4))...)
		case 2:
			b[r.Intn(len(b))] = byte(r.Intn(256))
		case 3:
			n += r.Intn(7) - 3
		}
		seen[mustAgree(t, b, n)]++
		if t.Failed() {
			return
		}
	}
	for _, e := range []api.Errno{api.OK, api.ErrArg, api.ErrShort, api.ErrLong, api.ErrForm} {
		if seen[e] < 100 {
			t.Errorf("%v came %d times only", e, seen[e])
		}
	}
	for range 100000 {
		mustAgree(t, randomBytes(r, r.Intn(40)), r.Intn(100))
	}
}

func TestP6_1LeavesItsArgument(t *testing.T) {
	r := rand.New(rand.NewSource(2))
	for range 3000 {
		b, n := someForm(r)
		whole := slices.Concat(pattern(50), b, pattern(50))
		kept := slices.Clone(whole)
		out, e := Unpack(whole[50:50+len(b)], n)
		for i := range out[:cap(out)] {
			out[:cap(out)][i] ^= 0xff
		}
		if !bytes.Equal(whole, kept) {
			t.Fatalf("Unpack(%x, %d), which is %v, shares or changes memory", b, n, e)
		}
		mustAgree(t, b, n)
	}
}
