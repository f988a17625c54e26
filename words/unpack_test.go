package words

import (
	"bytes"
	"cmp"
	"math"
	"math/rand"
	"slices"
	"strings"
	"testing"

	"concertina/api"
)

// table is the table of lengths as Pack need not make it: as many entries as
// there must be.
func table(lengths [256]int) []byte {
	var b []byte
	for x := 0; x < 256; {
		run := 1
		for x+run < 256 && run < 16 && lengths[x+run] == lengths[x] {
			run++
		}
		b = append(b, byte(16*lengths[x]+run-1))
		x += run
	}
	return b
}

// bitsOf is the bytes that begin with a text of zeros and ones; the rest of the
// last byte is zeros.
func bitsOf(text string) []byte {
	b := make([]byte, (len(text)+7)/8)
	for i, x := range text {
		if x == '1' {
			b[i/8] |= 128 >> (i % 8)
		}
	}
	return b
}

// textOf is all bits of b as zeros and ones.
func textOf(b []byte) string {
	var text strings.Builder
	for _, x := range b {
		for i := range 8 {
			text.WriteByte('0' + x<<i>>7)
		}
	}
	return text.String()
}

// plus is the text of zeros and ones that is greater by one, as a number; the
// text of the greatest number becomes all zeros.
func plus(text string) string {
	last := strings.LastIndexByte(text, '0')
	if last < 0 {
		return strings.Repeat("0", len(text))
	}
	return text[:last] + "1" + strings.Repeat("0", len(text)-last-1)
}

// plainCode is the byte values of a canonical code's codewords.
func plainCode(lengths [256]int) map[string]byte {
	var used []int
	for x, n := range lengths {
		if n > 0 {
			used = append(used, x)
		}
	}
	slices.SortFunc(used, func(x, y int) int {
		return cmp.Or(cmp.Compare(lengths[x], lengths[y]), cmp.Compare(x, y))
	})
	code := map[string]byte{}
	text := ""
	for i, x := range used {
		if i > 0 {
			text = plus(text)
		}
		text += strings.Repeat("0", lengths[x]-len(text))
		code[text] = byte(x)
	}
	return code
}

// plainTable is the lengths at the start of b and what follows them.
func plainTable(b []byte) ([256]int, []byte, api.Errno) {
	var l []int
	for len(l) < 256 {
		if len(b) == 0 {
			return [256]int{}, nil, api.ErrShort
		}
		if b[0] >= 12*16 {
			return [256]int{}, nil, api.ErrForm
		}
		l = append(l, slices.Repeat([]int{int(b[0] / 16)}, int(b[0]%16)+1)...)
		if len(l) > 256 {
			return [256]int{}, nil, api.ErrForm
		}
		b = b[1:]
	}
	return [256]int(l), b, api.OK
}

// plainKraft is the sum of 2^-length and how many lengths there are.
func plainKraft(lengths [256]int) (float64, int) {
	sum, used := 0.0, 0
	for _, n := range lengths {
		if n > 0 {
			sum += math.Pow(0.5, float64(n))
			used++
		}
	}
	return sum, used
}

// begins tells whether text is the beginning of a codeword.
func begins(code map[string]byte, text string) bool {
	for word := range code {
		if strings.HasPrefix(word, text) {
			return true
		}
	}
	return false
}

// plainUnpack is Unpack as the chapter tells it, in its order.
func plainUnpack(b []byte, n int) ([]byte, api.Errno) {
	if n < 0 || n > api.MaxData {
		return nil, api.ErrArg
	}
	lengths, rest, e := plainTable(b)
	if e != api.OK {
		return nil, e
	}
	sum, used := plainKraft(lengths)
	if sum > 1 || sum < 1 && used > 0 && (used > 1 || sum != 0.5) {
		return nil, api.ErrForm
	}
	code, text := plainCode(lengths), textOf(rest)
	var out []byte
	for range n {
		if len(code) == 0 {
			return nil, api.ErrForm
		}
		size := 0
		for {
			if x, ok := code[text[:size]]; ok {
				out = append(out, x)
				break
			}
			// Only a code that wastes something has other bits.
			if sum < 1 && !begins(code, text[:size]) {
				return nil, api.ErrForm
			}
			if size == len(text) {
				return nil, api.ErrShort
			}
			size++
		}
		text = text[size:]
	}
	if len(text) >= 8 {
		return nil, api.ErrLong
	}
	if strings.Contains(text, "1") {
		return nil, api.ErrForm
	}
	return out, api.OK
}

// begin is the start of b, for messages.
func begin(b []byte) []byte {
	return b[:min(len(b), 40)]
}

func mustUnpack(t *testing.T, b []byte, n int, want []byte) {
	t.Helper()
	if got, e := Unpack(b, n); e != api.OK || !bytes.Equal(got, want) {
		t.Errorf("Unpack(%d bytes, %x.., %d) = %d bytes, %x.., %v, want %d bytes, %x.., OK", len(b), begin(b), n, len(got), begin(got), e, len(want), begin(want))
	}
}

func mustNotUnpack(t *testing.T, b []byte, n int, want api.Errno) {
	t.Helper()
	if got, e := Unpack(b, n); e != want || len(got) != 0 {
		t.Errorf("Unpack(%d bytes, %x.., %d) = %d bytes, %v, want none, %v", len(b), begin(b), n, len(got), e, want)
	}
}

// mustAgree compares Unpack with the plain one.
func mustAgree(t *testing.T, b []byte, n int) api.Errno {
	t.Helper()
	want, e := plainUnpack(b, n)
	if e == api.OK {
		mustUnpack(t, b, n, want)
	} else {
		mustNotUnpack(t, b, n, e)
	}
	return e
}

// spread puts the lengths at places that are far from each other.
func spread(l ...int) [256]int {
	var a [256]int
	for i, n := range l {
		a[i*37%256] = n
	}
	return a
}

// front puts the lengths at the first places.
func front(l ...int) [256]int {
	var a [256]int
	copy(a[:], l)
	return a
}

// all is 256 times n.
func all(n int) [256]int {
	return front(slices.Repeat([]int{n}, 256)...)
}

// with is a with n at i.
func with(a [256]int, i, n int) [256]int {
	a[i] = n
	return a
}

// packed is a table with a text of zeros and ones behind it.
func packed(lengths [256]int, text string) []byte {
	return append(table(lengths), bitsOf(text)...)
}

// staircase has one codeword of each length from 1 to 10 and two of 11.
func staircase() [256]int {
	return spread(1, 2, 3, 4, 5, 6, 7, 8, 9, 10, 11, 11)
}

func TestP8_1Known(t *testing.T) {
	for _, c := range []struct{ b, want string }{
		// The example of the chapter, and the same with shorter runs.
		{strings.Repeat("\x0f", 16), ""},
		{strings.Repeat("\x00", 256), ""},
		{strings.Repeat("\x07", 32), ""},
		// Only the byte 0 has a codeword, or only the byte 255.
		{"\x10" + strings.Repeat("\x0f", 15) + "\x0e", ""},
		{"\x10" + strings.Repeat("\x0f", 15) + "\x0e\x00", "\x00\x00\x00\x00\x00\x00\x00\x00"},
		{strings.Repeat("\x0f", 15) + "\x0e\x10\x00", "\xff\xff\xff"},
		// 0 is 0, and 1 is 1.
		{"\x11" + strings.Repeat("\x0f", 15) + "\x0d\x50", "\x00\x01\x00\x01\x00\x00\x00\x00"},
		{"\x10\x10" + strings.Repeat("\x0f", 15) + "\x0d\x50", "\x00\x01\x00\x01\x00"},
		// 0 is 10, 1 is 0, 2 is 11.
		{"\x20\x10\x20" + strings.Repeat("\x0f", 15) + "\x0c\xe4\xa0", "\x02\x00\x01\x00\x01\x00\x00"},
		// 0 is 110, 1 is 10, 2 is 111, 3 is 0.
		{"\x30\x20\x30\x10" + strings.Repeat("\x0f", 15) + "\x0b\xcd\xe0", "\x00\x03\x00\x02\x01"},
		// Each byte is its own codeword.
		{strings.Repeat("\x8f", 16) + "words", "words"},
		{strings.Repeat("\x80", 256) + "\x00\xff\x80\x7f", "\x00\xff\x80\x7f"},
		{strings.Repeat("\x8f", 15) + "\x8d\x81\xfd\xfe\xff", "\xfd\xfe\xff"},
		// 255 is 0, and the even bytes have 8 bits, from 10000000 on.
		{strings.Repeat("\x80\x00", 127) + "\x80\x10\x80\xc0\x7f\x80", "\x00\x80\xff\xfe"},
	} {
		mustUnpack(t, []byte(c.b), len(c.want), []byte(c.want))
	}
}

func TestP8_1Arguments(t *testing.T) {
	for _, n := range []int{-1, -2, -8, -api.MaxData, math.MinInt32, math.MinInt, api.MaxData + 1, api.MaxData + 2, 2 * api.MaxData, math.MaxInt32, 1 << 32, math.MaxInt} {
		for _, b := range [][]byte{nil, {}, {0}, {0xff}, table(all(0)), table(all(8)), table(all(1)), append(table(all(8)), make([]byte, api.MaxData+1)...), packed(spread(1), "1")} {
			mustNotUnpack(t, b, n, api.ErrArg)
		}
	}
	for n := range api.MaxData + 1 {
		mustNotUnpack(t, nil, n, api.ErrShort)
		mustNotUnpack(t, []byte{}, n, api.ErrShort)
		if n > 0 {
			mustNotUnpack(t, table(all(0)), n, api.ErrForm)
			mustNotUnpack(t, packed(all(0), "0"), n, api.ErrForm)
			mustNotUnpack(t, table(all(8)), n, api.ErrShort)
		}
	}
	mustUnpack(t, table(all(0)), 0, nil)
	mustUnpack(t, table(all(8)), 0, nil)
	mustUnpack(t, append(table(all(8)), make([]byte, api.MaxData)...), api.MaxData, make([]byte, api.MaxData))
	mustNotUnpack(t, append(table(all(8)), make([]byte, api.MaxData+1)...), api.MaxData, api.ErrLong)
	mustUnpack(t, append(table(spread(1)), make([]byte, api.MaxData/8)...), api.MaxData, make([]byte, api.MaxData))
}

// none is entries for n byte values without a codeword.
func none(n int) []byte {
	var b []byte
	for ; n > 0; n -= min(n, 16) {
		b = append(b, byte(min(n, 16)-1))
	}
	return b
}

// Each entry is tried as the first one, in the middle, and as the last one.
func TestP8_1Entries(t *testing.T) {
	for entry := range 256 {
		length, run := entry>>4, entry&15+1
		for _, start := range []int{0, 1, 15, 16, 100, 239, 240, 241, 250, 254, 255} {
			b := none(start)
			if length > 11 || start+run > 256 {
				mustNotUnpack(t, append(b, byte(entry)), 0, api.ErrForm)
				mustNotUnpack(t, append(b, byte(entry), 0, 0xff), 0, api.ErrForm)
				mustAgree(t, append(b, byte(entry)), 1)
				continue
			}
			b = append(b, byte(entry))
			if start+run < 256 {
				mustNotUnpack(t, b, 0, api.ErrShort)
			}
			b = append(b, none(256-start-run)...)
			switch {
			case length == 0, run == 1<<length:
				mustUnpack(t, b, 0, nil)
			case length == 1 && run == 1:
				mustUnpack(t, append(b, 0), 5, bytes.Repeat([]byte{byte(start)}, 5))
			default:
				mustNotUnpack(t, b, 0, api.ErrForm)
			}
		}
	}
}

// Every beginning of a table is too short, also if what it misses comes behind
// it in memory.
func TestP8_1CutTables(t *testing.T) {
	for _, b := range [][]byte{
		table(all(0)), table(all(8)), table(staircase()), table(spread(1)), table(spread(1, 1)), table(with(all(0), 255, 1)),
		make([]byte, 256), bytes.Repeat([]byte{0x80}, 256), bytes.Repeat([]byte{0x81}, 128),
		// What the lengths are matters only when all are there.
		table(all(1)), table(all(11)), table(with(all(8), 255, 7)), bytes.Repeat([]byte{0xb0}, 256),
	} {
		for size := range b {
			for _, n := range []int{0, 1, api.MaxData} {
				mustNotUnpack(t, b[:size], n, api.ErrShort)
				mustNotUnpack(t, slices.Clone(b[:size]), n, api.ErrShort)
			}
		}
	}
}

func TestP8_1KraftSums(t *testing.T) {
	for _, l := range [][]int{
		{}, {1}, {1, 1}, {1, 2, 2}, {2, 2, 1}, {2, 2, 2, 2}, {3, 3, 2, 1}, slices.Repeat([]int{8}, 256),
		{1, 2, 3, 4, 5, 6, 7, 8, 9, 10, 11, 11}, append(slices.Repeat([]int{11}, 128), slices.Repeat([]int{7}, 120)...),
	} {
		mustUnpack(t, table(spread(l...)), 0, nil)
		mustUnpack(t, table(front(l...)), 0, nil)
	}
	for _, l := range [][]int{
		// One codeword of more than one bit.
		{2}, {3}, {4}, {5}, {6}, {7}, {8}, {9}, {10}, {11},
		// As much as one of one bit, but more codewords.
		{2, 2}, {2, 3, 3}, {3, 3, 3, 3}, slices.Repeat([]int{8}, 128), slices.Repeat([]int{9}, 256),
		{2, 3, 4, 5, 6, 7, 8, 9, 10, 11, 11},
		// Less than all, with one of one bit.
		{1, 2}, {1, 11}, {1, 3, 3, 4}, {1, 2, 3, 4, 5, 6, 7, 8, 9, 10}, {1, 2, 3, 4, 5, 6, 7, 8, 9, 10, 11},
		{2, 2, 2}, {2, 2, 2, 3}, {11, 11}, slices.Repeat([]int{11}, 256), slices.Repeat([]int{8}, 255), slices.Repeat([]int{10}, 256),
		// More than all.
		{1, 1, 11}, {1, 1, 1}, {1, 1, 1, 1}, {2, 2, 2, 2, 2}, {1, 1, 2}, {1, 2, 2, 11}, slices.Repeat([]int{1}, 256), slices.Repeat([]int{7}, 256),
		slices.Repeat([]int{7}, 129), {1, 2, 3, 4, 5, 6, 7, 8, 9, 10, 11, 11, 11}, slices.Repeat([]int{1}, 64), append(slices.Repeat([]int{8}, 255), 7),
	} {
		for _, lengths := range [][256]int{spread(l...), front(l...)} {
			for _, n := range []int{0, 1, 2, api.MaxData} {
				// This comes before all that can be wrong behind the table.
				for _, text := range []string{"", "0", "1", "00000000", "11111111", "0000000000000000", "111111111111"} {
					mustNotUnpack(t, packed(lengths, text), n, api.ErrForm)
				}
			}
		}
	}
}

func TestP8_1OneCodeword(t *testing.T) {
	for x := range 256 {
		lengths := with(all(0), x, 1)
		for _, n := range []int{0, 1, 2, 7, 8, 9, 15, 16, 17, 100, api.MaxData - 1, api.MaxData} {
			zeros := strings.Repeat("0", n)
			mustUnpack(t, packed(lengths, zeros), n, bytes.Repeat([]byte{byte(x)}, n))
			mustNotUnpack(t, append(packed(lengths, zeros), 0), n, api.ErrLong)
			if n == 0 {
				continue
			}
			mustNotUnpack(t, packed(lengths, zeros[:(n-1)/8*8]), n, api.ErrShort)
			// A one is not the beginning of a codeword.
			mustNotUnpack(t, packed(lengths, zeros[:n-1]+"1"), n, api.ErrForm)
			mustNotUnpack(t, packed(lengths, "1"+zeros[1:]), n, api.ErrForm)
			mustNotUnpack(t, packed(lengths, "1"), n, api.ErrForm)
		}
		for length := 2; length <= api.MaxLen; length++ {
			mustNotUnpack(t, packed(with(all(0), x, length), "00000000000"), 1, api.ErrForm)
		}
	}
}

// Each codeword of a code, alone and between others.
func TestP8_1Codewords(t *testing.T) {
	deep := append(slices.Repeat([]int{11}, 128), slices.Repeat([]int{7}, 120)...)
	for _, lengths := range [][256]int{all(8), staircase(), front(1, 2, 3, 4, 5, 6, 7, 8, 9, 10, 11, 11), front(11, 11, 10, 9, 8, 7, 6, 5, 4, 3, 2, 1), spread(1, 1), spread(2, 2, 2, 2), spread(deep...), front(deep...)} {
		code := plainCode(lengths)
		for word, x := range code {
			if len(word) != lengths[x] {
				t.Fatalf("the codeword %s of %d is not %d bits long", word, x, lengths[x])
			}
			mustUnpack(t, packed(lengths, word), 1, []byte{x})
			mustUnpack(t, packed(lengths, strings.Repeat(word, 300)), 300, bytes.Repeat([]byte{x}, 300))
			for other, y := range code {
				mustUnpack(t, packed(lengths, other+word+other), 3, []byte{y, x, y})
			}
		}
	}
}

func TestP8_1Staircase(t *testing.T) {
	lengths := front(1, 2, 3, 4, 5, 6, 7, 8, 9, 10, 11, 11)
	for i := range 10 {
		mustUnpack(t, packed(lengths, strings.Repeat("1", i)+"0"), 1, []byte{byte(i)})
	}
	mustUnpack(t, packed(lengths, "11111111110"), 1, []byte{10})
	mustUnpack(t, packed(lengths, "11111111111"), 1, []byte{11})
	// Equal lengths ascend with the byte values, wherever the other lengths are.
	lengths = front(3, 2, 3, 2, 3, 2, 3)
	for i, word := range []string{"110", "00", "111", "01", "", "10", ""} {
		if word != "" {
			mustUnpack(t, packed(with(with(lengths, 4, 0), 6, 0), word), 1, []byte{byte(i)})
		}
	}
}

// The bits end at each place of each codeword.
func TestP8_1CutCodewords(t *testing.T) {
	for _, lengths := range [][256]int{all(8), staircase(), spread(2, 2, 2, 2), spread(1, 2, 3, 3), spread(1, 1)} {
		for word := range plainCode(lengths) {
			text := strings.Repeat(word, 40)
			for _, n := range []int{1, 2, 7, 8, 9, 39, 40} {
				// The last byte is left out.
				end := (len(word)*n - 1) / 8 * 8
				mustNotUnpack(t, packed(lengths, text[:end]), n, api.ErrShort)
				mustNotUnpack(t, packed(lengths, text)[:len(table(lengths))+end/8], n, api.ErrShort)
				mustNotUnpack(t, table(lengths), n, api.ErrShort)
			}
		}
	}
}

func TestP8_1LeftBits(t *testing.T) {
	one, few := with(all(0), 9, 1), spread(1, 2, 3, 3)
	for n := range 50 {
		want := bytes.Repeat([]byte{9}, n)
		text := strings.Repeat("0", n)
		full := (n + 7) / 8 * 8
		mustUnpack(t, packed(one, text), n, want)
		for left := range full - n {
			mustNotUnpack(t, packed(one, text+strings.Repeat("0", left)+"1"), n, api.ErrForm)
			mustNotUnpack(t, packed(few, text+strings.Repeat("0", left)+"1"), n, api.ErrForm)
			mustNotUnpack(t, packed(few, text+strings.Repeat("1", left+1)), n, api.ErrForm)
			// That there is too much comes first.
			mustNotUnpack(t, append(packed(one, text+strings.Repeat("0", left)+"1"), 0), n, api.ErrLong)
			mustNotUnpack(t, append(packed(few, text+strings.Repeat("0", left)+"1"), 1), n, api.ErrLong)
		}
		for more := 1; more < 40; more++ {
			mustNotUnpack(t, append(packed(one, text), make([]byte, more)...), n, api.ErrLong)
			mustNotUnpack(t, append(packed(few, text), bytes.Repeat([]byte{255}, more)...), n, api.ErrLong)
		}
	}
	for _, more := range []int{1, 2, 255, 256, 1 << 12, 1 << 20} {
		for _, x := range []byte{0, 1, 0x80, 0xff} {
			for _, lengths := range [][256]int{all(0), all(8), one, few, staircase()} {
				mustNotUnpack(t, append(table(lengths), bytes.Repeat([]byte{x}, more)...), 0, api.ErrLong)
			}
		}
	}
}

func TestP8_1Order(t *testing.T) {
	nothing := table(all(0))
	for _, c := range []struct {
		b    []byte
		n    int
		want api.Errno
	}{
		// An entry that is wrong comes before a table that ends.
		{[]byte{0xc0}, 0, api.ErrForm}, {[]byte{0x0f, 0xff}, 9, api.ErrForm}, {[]byte{0xb0}, 0, api.ErrShort}, {[]byte{0xbf, 0xbf}, 9, api.ErrShort},
		// A table that ends comes before one that has too much.
		{bytes.Repeat([]byte{0x1f}, 15), 0, api.ErrShort}, {bytes.Repeat([]byte{0x1f}, 16), 0, api.ErrForm},
		{append(bytes.Repeat([]byte{0x1f}, 15), 0x1e), 0, api.ErrShort},
		// A table that is wrong comes before what is behind it.
		{packed(spread(1, 2), "0000000011111111"), 0, api.ErrForm}, {packed(spread(1, 1, 1), "0"), 900, api.ErrForm},
		// No codeword at all comes before bits that are missing, too many or 1.
		{nothing, 1, api.ErrForm}, {append(nothing, 0), 1, api.ErrForm}, {append(nothing, 0, 0), 3, api.ErrForm}, {nothing, api.MaxData, api.ErrForm},
		{append(nothing, 0), 0, api.ErrLong}, {append(nothing, 1), 0, api.ErrLong},
		// A codeword comes before all that is behind it.
		{packed(spread(1), "01"), 2, api.ErrForm}, {packed(spread(1), "01"), 1, api.ErrForm}, {packed(spread(1), "000000001"), 8, api.ErrLong},
		{packed(spread(1), "000000001"), 9, api.ErrForm}, {packed(spread(1), "00000001"), 90, api.ErrForm}, {packed(spread(1), "00000000"), 90, api.ErrShort},
		{packed(spread(1, 1), "00000001"), 9, api.ErrShort}, {packed(spread(1, 1), "00000001"), 7, api.ErrForm}, {packed(spread(1, 1), "00000001"), 8, api.OK},
		{packed(spread(2, 2, 2, 2), "00000001"), 3, api.ErrForm}, {packed(spread(2, 2, 2, 2), "0000000100"), 3, api.ErrLong},
	} {
		if _, e := Unpack(c.b, c.n); e != c.want {
			t.Errorf("Unpack(%x, %d) = %v, want %v", c.b, c.n, e, c.want)
		}
		mustAgree(t, c.b, c.n)
	}
}

// someLengths is lengths that waste nothing, of two byte values or more: leaves
// of a tree are split until there are enough.
func someLengths(r *rand.Rand) [256]int {
	l := []int{1, 1}
	for wanted := 2 + r.Intn(1+r.Intn(255)); len(l) < wanted; {
		i := r.Intn(len(l))
		if r.Intn(3) == 0 {
			i = len(l) - 1
		}
		if l[i] < api.MaxLen {
			l[i]++
			l = append(l, l[i])
		}
	}
	var lengths [256]int
	for i, x := range r.Perm(256)[:len(l)] {
		lengths[x] = l[i]
	}
	return lengths
}

// someEntries is lengths as entries that need not be as few as can be.
func someEntries(r *rand.Rand, lengths [256]int) []byte {
	var b []byte
	for rest := table(lengths); len(rest) > 0; rest = rest[1:] {
		length, run := rest[0]>>4, int(rest[0]&15)+1
		for run > 0 {
			n := run
			if r.Intn(20) == 0 {
				n = 1 + r.Intn(run)
			}
			b = append(b, length<<4|byte(n-1))
			run -= n
		}
	}
	return b
}

// someForm is a compressed form that need not be what Pack makes, and how many
// bytes there are in it.
func someForm(r *rand.Rand) ([]byte, int) {
	lengths, n := someLengths(r), r.Intn(1+r.Intn(300))
	switch r.Intn(20) {
	case 0:
		lengths = with(all(0), r.Intn(256), 1)
	case 1:
		lengths, n = all(0), 0
	case 2:
		lengths[r.Intn(256)] = r.Intn(api.MaxLen + 1)
	}
	var words []string
	for word := range plainCode(lengths) {
		words = append(words, word)
	}
	slices.Sort(words)
	text := ""
	for range n {
		text += words[r.Intn(len(words))]
	}
	return append(someEntries(r, lengths), bitsOf(text)...), n
}

func randomBytes(r *rand.Rand, n int) []byte {
	b := make([]byte, n)
	r.Read(b)
	return b
}

func TestP8_1AgainstPlain(t *testing.T) {
	r := rand.New(rand.NewSource(1))
	seen := map[api.Errno]int{}
	for range 20000 {
		b, n := someForm(r)
		switch r.Intn(7) {
		case 0:
			b = b[:r.Intn(len(b)+1)]
		case 1:
			b = append(b, randomBytes(r, r.Intn(3))...)
		case 2:
			b[r.Intn(len(b))] = byte(r.Intn(256))
		case 3:
			b[len(b)-1] ^= 1 << r.Intn(8)
		case 4:
			n += r.Intn(7) - 3
		}
		seen[mustAgree(t, b, n)]++
		if t.Failed() {
			return
		}
	}
	for _, e := range []api.Errno{api.OK, api.ErrArg, api.ErrShort, api.ErrLong, api.ErrForm} {
		if seen[e] < 100 {
			t.Errorf("%v came %d times only", e, seen[e])
		}
	}
	for range 20000 {
		mustAgree(t, randomBytes(r, r.Intn(300)), r.Intn(100))
		mustAgree(t, append(table(someLengths(r)), randomBytes(r, r.Intn(30))...), r.Intn(100))
	}
}

func TestP8_1LeavesItsArgument(t *testing.T) {
	r := rand.New(rand.NewSource(2))
	for range 3000 {
		b, n := someForm(r)
		if r.Intn(4) == 0 {
			n += r.Intn(5) - 2
		}
		whole := slices.Concat(randomBytes(r, 50), b, randomBytes(r, 50))
		kept := slices.Clone(whole)
		out, e := Unpack(whole[50:50+len(b)], n)
		for i := range out[:cap(out)] {
			out[:cap(out)][i] ^= 0xff
		}
		if !bytes.Equal(whole, kept) {
			t.Fatalf("Unpack(%x, %d), which is %v, shares or changes memory", b, n, e)
		}
		mustAgree(t, b, n)
	}
}
