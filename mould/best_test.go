package mould

import (
	"bytes"
	"math"
	"math/rand"
	"slices"
	"strings"
	"testing"

	"concertina/api"
	"concertina/gain"
)

// fullLz is how many bytes become api.MaxData bytes in the format Lz if no part
// of them comes twice: a token, 16 bytes of a length, and themselves.
const fullLz = api.MaxData - 17

// anyThresholds is thresholds of every kind.
var anyThresholds = [...]float64{
	1, 0.99, 0.75, 0.5, 0.25, 0.1, 0.01, 0.001, 0, math.Copysign(0, -1), -1, 2, -0.5,
	math.NaN(), math.Inf(1), math.Inf(-1), math.MaxFloat64, -math.MaxFloat64,
	math.SmallestNonzeroFloat64, -math.SmallestNonzeroFloat64,
}

// greatThresholds is thresholds by which it is worthwhile to save one byte.
var greatThresholds = [...]float64{1, math.Nextafter(1, 2), 2, math.MaxFloat64, math.Inf(1), math.NaN(), math.Float64frombits(1<<64 - 1)}

// smallThresholds is thresholds by which nothing is worthwhile.
var smallThresholds = [...]float64{0, math.Copysign(0, -1), -math.SmallestNonzeroFloat64, -1, -math.MaxFloat64, math.Inf(-1), math.SmallestNonzeroFloat64}

// letters is n bytes of a few values.
func letters(r *rand.Rand, n, values int) []byte {
	first, b := r.Intn(256), make([]byte, n)
	for i := range b {
		b[i] = byte(first + r.Intn(values))
	}
	return b
}

// unlike is n bytes of nine values in which no four bytes come twice, so that
// they have no match, but codewords that are shorter than bytes.
func unlike(n int) []byte {
	b := []byte{0, 0, 0}
	seen := map[[4]byte]bool{}
	for len(b) < n {
		// The rule 'greatest first' leads through all of them.
		for x := byte(8); ; x-- {
			next := [4]byte{b[len(b)-3], b[len(b)-2], b[len(b)-1], x}
			if !seen[next] {
				seen[next] = true
				b = append(b, x)
				break
			}
		}
	}
	return b[:n]
}

// samples is bytes of many kinds and sizes.
func samples() [][]byte {
	r := rand.New(rand.NewSource(3))
	l := [][]byte{nil, {}, {0}, []byte("a"), make([]byte, api.MaxData)}
	for _, n := range []int{1, 2, 3, 11, 12, 13, 20, 64, 127, 128, 129, 300, 1024, fullLz, fullLz + 1, api.MaxData} {
		l = append(l, bytes.Repeat([]byte{byte(n)}, n), unlike(n),
			letters(r, n, 256), letters(r, n, 20), letters(r, n, 4), letters(r, n, 2))
	}
	for n := 1; n < 150; n += 7 {
		l = append(l, []byte(strings.Repeat("some words, said again, ", n)), bytes.Repeat(letters(r, n, 256), 2))
	}
	for n := range 40 {
		l = append(l, mixed(r, 40+100*n))
	}
	return l
}

// mixed is n bytes in pieces of any kind, some of which come again.
func mixed(r *rand.Rand, n int) []byte {
	var b []byte
	for len(b) < n {
		piece := letters(r, 1+r.Intn(40), 1+r.Intn(60))
		if len(b) > 0 && r.Intn(2) > 0 {
			at := r.Intn(len(b))
			piece = b[at : at+r.Intn(min(100, len(b)-at)+1)]
		}
		b = append(b, piece...)
	}
	return b[:n]
}

// plainBest is Best as the chapter tells it.
func plainBest(b []byte, x float64) (int, []byte) {
	if len(b) > api.MaxData {
		return Raw, nil
	}
	forms := formsOf(b)
	z, w := forms[Lz], forms[Both]
	switch {
	case len(z) <= api.MaxData && len(w) < len(z) && gain.Worth(x, len(w), len(b)):
		return Both, w
	case gain.Worth(x, len(z), len(b)):
		return Lz, z
	}
	return Raw, b
}

// mustBest asks for a certain result of Best and that Open restores b from it.
func mustBest(t *testing.T, b []byte, x float64, kind int, form []byte) {
	t.Helper()
	gotKind, got := Best(b, x)
	if gotKind != kind || !bytes.Equal(got, form) {
		t.Errorf("Best(%d bytes, %x.., %v) = %d, %d bytes, %x.., want %d, %d bytes, %x..", len(b), begin(b), x, gotKind, len(got), begin(got), kind, len(form), begin(form))
	}
	if len(b) <= api.MaxData {
		mustOpen(t, gotKind, got, len(b), b)
	}
}

func TestP9_2BestKnown(t *testing.T) {
	mustBest(t, []byte("ab"), 1, Raw, []byte("ab"))
	// The format Lz has only few bytes here, but a table of lengths has 16 at
	// least.
	b := make([]byte, 100)
	mustBest(t, b, 1, Lz, formsOf(b)[Lz])
	// No four bytes come twice, but there are only nine values.
	b = unlike(1000)
	mustBest(t, b, 1, Both, formsOf(b)[Both])
	mustBest(t, b, 0.1, Raw, b)
}

func TestP9_2BestAgrees(t *testing.T) {
	var seen [3]int
	for _, b := range samples() {
		for _, x := range anyThresholds {
			kind, form := plainBest(b, x)
			mustBest(t, b, x, kind, form)
			seen[kind]++
		}
	}
	for kind, n := range seen {
		if n < 50 {
			t.Errorf("format %d was the best one only %d times", kind, n)
		}
	}
}

func TestP9_2BestIsTheSmallest(t *testing.T) {
	var seen [3]int
	for _, b := range samples() {
		forms := formsOf(b)
		smallest := min(len(forms[Raw]), len(forms[Lz]))
		if len(forms[Lz]) <= api.MaxData {
			smallest = min(smallest, len(forms[Both]))
		}
		for _, x := range greatThresholds {
			kind, form := Best(b, x)
			if len(form) != smallest || !bytes.Equal(form, forms[kind]) {
				t.Errorf("Best(%d bytes, %x.., %v) = %d, %d bytes, and %d would do", len(b), begin(b), x, kind, len(form), smallest)
			}
			seen[kind]++
		}
	}
	if slices.Min(seen[:]) < 50 {
		t.Errorf("the formats were the best %v times", seen)
	}
}

func TestP9_2BestIsRawWhereNothingIsWorthwhile(t *testing.T) {
	for _, b := range samples() {
		for _, x := range smallThresholds {
			mustBest(t, b, x, Raw, b)
		}
	}
}

// TestP9_2BestAtTheThreshold asks at the least threshold by which a format is
// worthwhile and at the next one below. With a power of two of bytes the
// threshold times their number is exact.
func TestP9_2BestAtTheThreshold(t *testing.T) {
	r := rand.New(rand.NewSource(4))
	for _, n := range []int{64, 128, 512, 2048, 4096} {
		for _, b := range [][]byte{make([]byte, n), unlike(n), mixed(r, n), letters(r, n, 2)} {
			forms := formsOf(b)
			kind := Lz
			if len(forms[Lz]) <= api.MaxData && len(forms[Both]) < len(forms[Lz]) {
				kind = Both
			}
			x := float64(len(forms[kind])) / float64(n)
			if x >= 1 {
				mustBest(t, b, 1, Raw, b)
				continue
			}
			mustBest(t, b, x, kind, forms[kind])
			mustBest(t, b, math.Nextafter(x, 1), kind, forms[kind])
			mustBest(t, b, math.Nextafter(x, 0), Raw, b)
		}
	}
}

// TestP9_2BestOfLongLz has bytes for which the format Lz is just as long as it
// may be for the format Both, and one byte longer.
func TestP9_2BestOfLongLz(t *testing.T) {
	b := unlike(fullLz)
	forms := formsOf(b)
	if len(forms[Lz]) != api.MaxData || len(forms[Both]) > api.MaxData/2 {
		t.Fatalf("the formats have %d and %d bytes", len(forms[Lz]), len(forms[Both]))
	}
	for _, x := range greatThresholds {
		mustBest(t, b, x, Both, forms[Both])
	}
	for n := fullLz + 1; n <= api.MaxData; n++ {
		b := unlike(n)
		if z := formsOf(b)[Lz]; len(z) <= api.MaxData {
			t.Fatalf("the format Lz of %d bytes has %d", n, len(z))
		}
		for _, x := range greatThresholds {
			mustBest(t, b, x, Raw, b)
		}
	}
}

// TestP9_2BestOfTies has bytes for which two formats have the same size.
func TestP9_2BestOfTies(t *testing.T) {
	r := rand.New(rand.NewSource(5))
	bothAsLz, lzAsRaw, bothAsRaw := 0, 0, 0
	for i := range 20000 {
		b := slices.Concat(letters(r, 8+r.Intn(100), 1+r.Intn(40)), make([]byte, r.Intn(40)))
		if i%2 > 0 {
			b = letters(r, 20+r.Intn(120), 4+r.Intn(40))
		}
		forms := formsOf(b)
		raw, z, w := len(forms[Raw]), len(forms[Lz]), len(forms[Both])
		switch {
		case w == z && z < raw:
			bothAsLz++
			mustBest(t, b, 1, Lz, forms[Lz])
		case z == raw && w >= z:
			lzAsRaw++
			mustBest(t, b, 1, Raw, b)
		case w == raw && z > w:
			bothAsRaw++
			mustBest(t, b, 1, Raw, b)
		}
	}
	if min(bothAsLz, lzAsRaw, bothAsRaw) < 10 {
		t.Errorf("there were only %d, %d and %d ties", bothAsLz, lzAsRaw, bothAsRaw)
	}
}

// TestP9_2BestOfBothWithoutLz has bytes for which only the format Both is less
// than them.
func TestP9_2BestOfBothWithoutLz(t *testing.T) {
	b := unlike(500)
	forms := formsOf(b)
	if len(forms[Lz]) <= len(b) {
		t.Fatalf("the format Lz has %d bytes", len(forms[Lz]))
	}
	mustBest(t, b, 1, Both, forms[Both])
	mustBest(t, b, 0.25, Raw, b)
}

func TestP9_2BestOfNothing(t *testing.T) {
	for _, x := range anyThresholds {
		mustBest(t, nil, x, Raw, nil)
		mustBest(t, []byte{}, x, Raw, nil)
	}
}

func TestP9_2BestOfTooMuch(t *testing.T) {
	for _, n := range []int{api.MaxData + 1, api.MaxData + 2, 2 * api.MaxData, 1 << 16, 1 << 20} {
		for _, x := range anyThresholds {
			mustBest(t, make([]byte, n), x, Raw, nil)
		}
	}
	for _, x := range anyThresholds {
		mustBest(t, unlike(api.MaxData+1), x, Raw, nil)
	}
	b := make([]byte, api.MaxData)
	mustBest(t, b, 1, Lz, formsOf(b)[Lz])
}

func TestP9_2BestIsTheSameEachTime(t *testing.T) {
	for _, b := range samples() {
		for _, x := range anyThresholds {
			kind, form := Best(b, x)
			Best(make([]byte, 50), 1)
			again, same := Best(slices.Clone(b), x)
			if kind != again || !bytes.Equal(form, same) {
				t.Errorf("Best(%d bytes, %x.., %v) is not the same each time", len(b), begin(b), x)
			}
		}
	}
}

func TestP9_2BestLeavesItsArgument(t *testing.T) {
	for _, b := range append(samples(), make([]byte, api.MaxData+1)) {
		whole := slices.Concat([]byte("before"), b, []byte("behind"))
		kept := slices.Clone(whole)
		for _, x := range anyThresholds {
			kind, form := Best(whole[6:6+len(b)], x)
			if !bytes.Equal(whole, kept) {
				t.Fatalf("Best(%d bytes, %v) has changed them", len(b), x)
			}
			if !theirs(whole, form) {
				t.Fatalf("Best(%d bytes, %v) = %d has handed them out", len(b), x, kind)
			}
		}
	}
}

func TestP9_2BestSharesNothing(t *testing.T) {
	for _, b := range [][]byte{[]byte("ab"), make([]byte, 100), unlike(1000)} {
		given := slices.Clone(b)
		kind, form := Best(given, 1)
		clear(given)
		mustOpen(t, kind, form, len(b), b)
		_, other := Best(b, 1)
		clear(other[:cap(other)])
		mustOpen(t, kind, form, len(b), b)
	}
}
