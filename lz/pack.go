package lz

import "concertina/api"

// The format wants the last match to begin and to end at least so many bytes
// before the end of the data. Unpack does not ask for that, but other decoders
// rely on it.
const (
	lastStart = 12
	lastEnd   = 5
)

const hashBits = 12

// finder finds matches in data, from its start on.
type finder struct {
	data []byte
	// seen has for the hash of four bytes one more than the place where they
	// began last, so that 0 stands for none.
	seen [1 << hashBits]int
	// next is the first place that is not in seen.
	next int
}

// Pack returns a compressed form of b.
func Pack(b []byte) []byte {
	if len(b) > api.MaxData {
		return nil
	}
	out := make([]byte, 0, Most(len(b)))
	f := &finder{data: b}
	start, at := 0, 0
	for at <= len(b)-lastStart {
		from := f.find(at)
		if from < 0 {
			at++
			continue
		}
		size := f.size(from, at)
		out = appendMatch(out, b[start:at], at-from, size)
		at += size
		start = at
	}
	return appendLiterals(out, b[start:], 0)
}

// find returns the place before at where the same four bytes as there began
// last, or -1 if it finds none.
func (f *finder) find(at int) int {
	for ; f.next < at; f.next++ {
		f.seen[hash(f.four(f.next))] = f.next + 1
	}
	from := f.seen[hash(f.four(at))] - 1
	if from >= 0 && f.four(from) != f.four(at) {
		return -1
	}
	return from
}

// four returns the four bytes from a place on as one number.
func (f *finder) four(at int) uint32 {
	var x uint32
	for i, y := range f.data[at : at+leastMatch] {
		x |= uint32(y) << (8 * i)
	}
	return x
}

// size returns how many bytes are the same from two places on, where four are
// known to be. It leaves out the last ones, which belong to no match.
func (f *finder) size(from, at int) int {
	n := leastMatch
	for at+n < len(f.data)-lastEnd && f.data[from+n] == f.data[at+n] {
		n++
	}
	return n
}

// hash maps four bytes to few bits: the high bits of a product with a prime near
// to 2^32 divided by the golden ratio, on which all four have an effect.
func hash(four uint32) uint32 {
	return four * 2654435761 >> (32 - hashBits)
}

// appendMatch appends a sequence of literals and a match.
func appendMatch(out, literals []byte, offset, size int) []byte {
	out = appendLiterals(out, literals, size-leastMatch)
	out = append(out, byte(offset), byte(offset>>8))
	return appendLength(out, size-leastMatch)
}

// appendLiterals appends the token of a sequence and its literals. Its match, if
// it has one, is longer than the least by extra bytes.
func appendLiterals(out, literals []byte, extra int) []byte {
	out = append(out, byte(min(len(literals), tokenFull)<<lengthBits|min(extra, tokenFull)))
	out = appendLength(out, len(literals))
	return append(out, literals...)
}

// appendLength appends what of a length does not fit in a token.
func appendLength(out []byte, length int) []byte {
	if length < tokenFull {
		return out
	}
	length -= tokenFull
	for ; length >= byteFull; length -= byteFull {
		out = append(out, byteFull)
	}
	return append(out, byte(length))
}
