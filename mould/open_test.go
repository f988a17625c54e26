package mould

import (
	"bytes"
	"math"
	"math/rand"
	"slices"
	"testing"

	"concertina/api"
	"concertina/lz"
	"concertina/words"
)

// kinds is all formats, in the chapter's order.
var kinds = [...]int{Raw, Lz, Both}

// notKinds is numbers of no format.
var notKinds = [...]int{-1, 3, 4, -2, 256, 257, 258, 1 << 16, math.MinInt, math.MaxInt}

// notSizes is numbers of bytes that Open does not restore.
var notSizes = [...]int{-1, api.MaxData + 1, -api.MaxData, 1 << 16, math.MinInt, math.MaxInt}

// behind is the bytes that follow a length m in two bytes.
func behind(m int, rest ...byte) []byte {
	return append([]byte{byte(m % 256), byte(m / 256)}, rest...)
}

// formsOf is b in each of the formats, by kind.
func formsOf(b []byte) [3][]byte {
	z := lz.Pack(b)
	return [3][]byte{b, z, behind(len(z), words.Pack(z)...)}
}

// plainOpen is Open as the chapter tells it, in its order.
func plainOpen(kind int, b []byte, n int) ([]byte, api.Errno) {
	if !slices.Contains(kinds[:], kind) || n < 0 || n > api.MaxData {
		return nil, api.ErrArg
	}
	if kind == Raw {
		if len(b) < n {
			return nil, api.ErrShort
		}
		if len(b) > n {
			return nil, api.ErrLong
		}
		return b, api.OK
	}
	if kind == Both {
		if len(b) < 2 {
			return nil, api.ErrShort
		}
		m := int(b[1])*256 + int(b[0])
		if m > api.MaxData {
			return nil, api.ErrLong
		}
		z, e := words.Unpack(b[2:], m)
		if e != api.OK {
			return nil, e
		}
		b = z
	}
	return lz.Unpack(b, n)
}

// begin is the start of b, for messages.
func begin(b []byte) []byte {
	return b[:min(len(b), 40)]
}

func mustOpen(t *testing.T, kind int, b []byte, n int, want []byte) {
	t.Helper()
	if got, e := Open(kind, b, n); e != api.OK || !bytes.Equal(got, want) {
		t.Errorf("Open(%d, %d bytes, %x.., %d) = %d bytes, %x.., %v, want %d bytes, %x.., OK", kind, len(b), begin(b), n, len(got), begin(got), e, len(want), begin(want))
	}
}

func mustNotOpen(t *testing.T, kind int, b []byte, n int, want api.Errno) {
	t.Helper()
	if got, e := Open(kind, b, n); e != want || len(got) != 0 {
		t.Errorf("Open(%d, %d bytes, %x.., %d) = %d bytes, %v, want none, %v", kind, len(b), begin(b), n, len(got), e, want)
	}
}

// mustAgree compares Open with the plain one.
func mustAgree(t *testing.T, kind int, b []byte, n int) api.Errno {
	t.Helper()
	want, e := plainOpen(kind, b, n)
	if e == api.OK {
		mustOpen(t, kind, b, n, want)
	} else {
		mustNotOpen(t, kind, b, n, e)
	}
	return e
}

// twoWords is a table of lengths by which the bit 0 is the byte 10 and the bit 1
// is the byte 61.
var twoWords = []byte{
	0x0f, 0x10, 0x0f, 0x0f, 0x0f, 0x0f, 0x0f, 0x10,
	0x0f, 0x0f, 0x0f, 0x0f, 0x0f, 0x0f, 0x0f, 0x0f, 0x0f, 0x0d,
}

// noWords is a table of lengths by which no byte has a codeword.
var noWords = bytes.Repeat([]byte{0x0f}, 16)

// bitsOf is the format Both of m bytes that are 10 or 61, as the bits tell.
func bitsOf(m int, bits ...byte) []byte {
	return behind(m, slices.Concat(twoWords, bits)...)
}

func TestP9_1FormatsAreNumbered(t *testing.T) {
	if Raw != 0 || Lz != 1 || Both != 2 {
		t.Errorf("the formats are %d, %d and %d", Raw, Lz, Both)
	}
}

func TestP9_1OpenKnown(t *testing.T) {
	mustOpen(t, Raw, []byte("ab"), 2, []byte("ab"))
	mustOpen(t, Raw, []byte{0x10, 'a'}, 2, []byte{0x10, 'a'})
	mustOpen(t, Lz, []byte{0x10, 'a'}, 1, []byte("a"))
	mustOpen(t, Lz, []byte{0x11, 'a', 1, 0, 0}, 6, []byte("aaaaaa"))
	// The bits 01 are 10 61.
	mustOpen(t, Both, bitsOf(2, 0b01_000000), 1, []byte("a"))
}

func TestP9_1OpenTakesNoOtherFormat(t *testing.T) {
	for _, kind := range notKinds {
		for _, n := range []int{0, 1, 2, -1, api.MaxData, api.MaxData + 1} {
			for _, b := range [][]byte{nil, {0}, {0x10, 'a'}, bitsOf(2, 0x40), make([]byte, api.MaxData)} {
				mustNotOpen(t, kind, b, n, api.ErrArg)
			}
		}
	}
}

func TestP9_1OpenTakesNoOtherSize(t *testing.T) {
	for _, kind := range kinds {
		for _, n := range notSizes {
			// All of these have another error, too.
			for _, b := range [][]byte{nil, {0}, {0x10, 'a'}, bitsOf(2, 0x40), behind(0xffff), make([]byte, api.MaxData+1)} {
				mustNotOpen(t, kind, b, n, api.ErrArg)
			}
		}
	}
}

func TestP9_1OpenRaw(t *testing.T) {
	all := letters(rand.New(rand.NewSource(1)), api.MaxData+2, 256)
	for _, n := range []int{0, 1, 2, 3, 255, 256, 257, api.MaxData - 1, api.MaxData} {
		mustOpen(t, Raw, all[:n], n, all[:n])
		mustNotOpen(t, Raw, all[:n+1], n, api.ErrLong)
		mustNotOpen(t, Raw, all, n, api.ErrLong)
		if n > 0 {
			mustNotOpen(t, Raw, all[:n-1], n, api.ErrShort)
			mustNotOpen(t, Raw, nil, n, api.ErrShort)
		}
	}
	mustOpen(t, Raw, nil, 0, nil)
	mustOpen(t, Raw, []byte{}, 0, nil)
}

func TestP9_1OpenLz(t *testing.T) {
	a := []byte{0x10, 'a'}
	mustNotOpen(t, Lz, nil, 0, api.ErrShort)
	mustOpen(t, Lz, []byte{0}, 0, nil)
	mustNotOpen(t, Lz, a, 0, api.ErrLong)
	mustNotOpen(t, Lz, a, 2, api.ErrShort)
	mustNotOpen(t, Lz, a[:1], 1, api.ErrShort)
	mustNotOpen(t, Lz, []byte{0x10, 'a', 2, 0}, 5, api.ErrForm)
	mustNotOpen(t, Lz, []byte{0x10, 'a', 0, 0}, 5, api.ErrForm)
	mustNotOpen(t, Lz, []byte{0x10, 'a', 1, 0}, 4, api.ErrLong)
}

func TestP9_1OpenBothErrorsOfItsLength(t *testing.T) {
	for _, n := range []int{0, 1, api.MaxData} {
		mustNotOpen(t, Both, nil, n, api.ErrShort)
		for x := range 256 {
			mustNotOpen(t, Both, []byte{byte(x)}, n, api.ErrShort)
		}
		// words.Unpack would find a missing table.
		for _, m := range []int{0, 1, 15, 16, 0x110, 0x0fff, api.MaxData} {
			mustNotOpen(t, Both, behind(m), n, api.ErrShort)
		}
		for _, m := range []int{api.MaxData + 1, 0x1010, 0x1100, 0x2000, 0x8000, 0xff00, 0xffff} {
			mustNotOpen(t, Both, behind(m), n, api.ErrLong)
			mustNotOpen(t, Both, behind(m, noWords...), n, api.ErrLong)
			mustNotOpen(t, Both, bitsOf(m, make([]byte, 0xffff/8+1)...), n, api.ErrLong)
			mustNotOpen(t, Both, behind(m, 0xff), n, api.ErrLong)
		}
	}
}

func TestP9_1OpenBothErrorsOfWords(t *testing.T) {
	for n := range 10 {
		// A byte or a bit is missing.
		mustNotOpen(t, Both, behind(2, twoWords[:17]...), n, api.ErrShort)
		mustNotOpen(t, Both, bitsOf(2), n, api.ErrShort)
		mustNotOpen(t, Both, bitsOf(9, 0x40), n, api.ErrShort)
		// A length is too great, and there is no such codeword.
		mustNotOpen(t, Both, behind(2, 0xc0), n, api.ErrForm)
		mustNotOpen(t, Both, behind(2, noWords...), n, api.ErrForm)
		// Bits are left. Without them it would be one byte, so that for any other
		// n it is also lz.Unpack's error.
		mustNotOpen(t, Both, bitsOf(2, 0x41), n, api.ErrForm)
		mustNotOpen(t, Both, bitsOf(2, 0x40, 0), n, api.ErrLong)
	}
}

func TestP9_1OpenBothErrorsOfLz(t *testing.T) {
	mustNotOpen(t, Both, bitsOf(2, 0x40), 0, api.ErrLong)
	for _, n := range []int{2, 3, api.MaxData} {
		mustNotOpen(t, Both, bitsOf(2, 0x40), n, api.ErrShort)
	}
	// Of 10 alone the literal is missing, of 10 61 61 half of the offset. In
	// 10 61 61 10 it goes back too far, but the literal comes first.
	mustNotOpen(t, Both, bitsOf(1, 0), 1, api.ErrShort)
	mustNotOpen(t, Both, bitsOf(3, 0b011_00000), 1, api.ErrShort)
	mustNotOpen(t, Both, bitsOf(4, 0b0110_0000), 5, api.ErrForm)
	mustNotOpen(t, Both, bitsOf(4, 0b0110_0000), 0, api.ErrLong)
	// No bytes are no sequence, not even one without literals.
	for _, n := range []int{0, 1, api.MaxData} {
		mustNotOpen(t, Both, behind(0, noWords...), n, api.ErrShort)
	}
}

func TestP9_1OpenBothLimits(t *testing.T) {
	// It has api.MaxData bytes in the format Lz, the greatest length that the
	// format Both can have before its bytes.
	b := unlike(fullLz)
	form := formsOf(b)[Both]
	if m := int(form[0]) + 256*int(form[1]); m != api.MaxData {
		t.Fatalf("there are %d bytes in the format Lz", m)
	}
	mustOpen(t, Both, form, len(b), b)
	mustNotOpen(t, Both, form, len(b)-1, api.ErrLong)
	mustNotOpen(t, Both, form, len(b)+1, api.ErrShort)
	for _, m := range []int{api.MaxData - 1, api.MaxData + 1} {
		if e := mustAgree(t, Both, behind(m, form[2:]...), len(b)); e == api.OK {
			t.Errorf("with a length of %d there is no error", m)
		}
	}
	zeros := make([]byte, api.MaxData)
	for kind, form := range formsOf(zeros) {
		mustOpen(t, kind, form, api.MaxData, zeros)
		mustNotOpen(t, kind, form, api.MaxData-1, api.ErrLong)
	}
}

func TestP9_1OpenRestoresAll(t *testing.T) {
	for _, b := range samples() {
		for kind, form := range formsOf(b) {
			if kind == Both && len(form) == 2 {
				// There is no such format for so many bytes.
				continue
			}
			mustOpen(t, kind, form, len(b), b)
			if len(b) < api.MaxData {
				mustNotOpen(t, kind, form, len(b)+1, api.ErrShort)
			}
			if len(b) > 0 {
				mustNotOpen(t, kind, form, len(b)-1, api.ErrLong)
			}
		}
	}
}

func TestP9_1OpenOfDamage(t *testing.T) {
	r := rand.New(rand.NewSource(2))
	var seen [3][api.ErrLost + 1]int
	list := samples()
	for range 6000 {
		b := list[r.Intn(len(list))]
		kind := r.Intn(len(kinds))
		form := slices.Clone(formsOf(b)[kind])
		switch r.Intn(4) {
		case 0:
			form = form[:r.Intn(len(form)+1)]
		case 1:
			form = append(form, letters(r, 1+r.Intn(3), 256)...)
		case 2:
			if len(form) > 0 {
				form[r.Intn(min(len(form), 30))] ^= 1 << r.Intn(8)
			}
		case 3:
			if len(form) > 0 {
				form[r.Intn(len(form))] ^= byte(1 + r.Intn(255))
			}
		}
		seen[kind][mustAgree(t, kind, form, max(0, len(b)-r.Intn(2)))]++
		mustAgree(t, r.Intn(3), form, r.Intn(len(form)+2))
	}
	for kind, want := range [][]api.Errno{
		{api.OK, api.ErrShort, api.ErrLong},
		{api.OK, api.ErrShort, api.ErrLong, api.ErrForm},
		{api.OK, api.ErrShort, api.ErrLong, api.ErrForm},
	} {
		for e, n := range seen[kind] {
			if (n > 9) != slices.Contains(want, api.Errno(e)) {
				t.Errorf("format %d had %v %d times", kind, api.Errno(e), n)
			}
		}
	}
}

func TestP9_1OpenAnyBytes(t *testing.T) {
	for x := range 1 << 16 {
		b := []byte{byte(x), byte(x >> 8)}
		for kind := -1; kind <= 3; kind++ {
			for _, n := range []int{0, 1, 2} {
				mustAgree(t, kind, b, n)
			}
		}
	}
}

// theirs tells whether all of out can be written to, spare capacity included,
// without a change of what was handed in.
func theirs(given, out []byte) bool {
	kept := slices.Clone(given)
	out = out[:cap(out)]
	for i := range out {
		out[i] ^= 0xff
	}
	return bytes.Equal(given, kept)
}

func TestP9_1OpenLeavesItsArgument(t *testing.T) {
	for _, b := range samples() {
		for kind, form := range formsOf(b) {
			whole := slices.Concat([]byte("before"), form, []byte("behind"))
			kept := slices.Clone(whole)
			given := whole[6 : 6+len(form)]
			for _, n := range []int{len(b), len(b) / 2, api.MaxData + 1} {
				out, _ := Open(kind, given, n)
				if !bytes.Equal(whole, kept) {
					t.Fatalf("Open(%d, %d bytes, %d) has changed them", kind, len(form), n)
				}
				if !theirs(whole, out) {
					t.Fatalf("Open(%d, %d bytes, %d) has handed them out", kind, len(form), n)
				}
			}
		}
	}
}

func TestP9_1OpenSharesNothing(t *testing.T) {
	b := bytes.Repeat([]byte("abcd"), 100)
	for kind, form := range formsOf(b) {
		given := slices.Clone(form)
		one, _ := Open(kind, given, len(b))
		clear(given)
		if !bytes.Equal(one, b) {
			t.Errorf("format %d: what Open has returned changes with its argument", kind)
		}
		two, _ := Open(kind, form, len(b))
		clear(two[:cap(two)])
		if !bytes.Equal(one, b) {
			t.Errorf("format %d: two results share memory", kind)
		}
	}
}
