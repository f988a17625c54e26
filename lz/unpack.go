package lz

import "concertina/api"

// sequence is some literals and, unless it is the last one, a match.
type sequence struct {
	literals []byte
	last     bool
	offset   int
	match    int64
}

// source is the bytes that have not been decoded.
type source struct {
	rest []byte
}

// Unpack decompresses b to exactly n bytes.
func Unpack(b []byte, n int) (out []byte, e api.Errno) {
	if n < 0 || n > api.MaxData {
		return nil, api.ErrArg
	}
	defer func() {
		switch x := recover(); x {
		case nil:
		case api.ErrShort:
			out, e = nil, api.ErrShort
		default:
			// This is a mistake in this package, and must not pass for a
			// missing byte.
			panic(x)
		}
	}()
	return decode(&source{b}, n)
}

// decode is Unpack, but panics with ErrShort if a byte is missing.
func decode(s *source, n int) ([]byte, api.Errno) {
	out := make([]byte, 0, n)
	for {
		q := s.sequence()
		if len(q.literals) > n-len(out) {
			return nil, api.ErrLong
		}
		out = append(out, q.literals...)
		if q.last {
			break
		}
		if q.offset == 0 || q.offset > len(out) {
			return nil, api.ErrForm
		}
		if q.match > int64(n-len(out)) {
			return nil, api.ErrLong
		}
		out = repeat(out, q.offset, int(q.match))
	}
	if len(out) < n {
		return nil, api.ErrShort
	}
	return out, api.OK
}

// repeat appends size bytes of out, from offset bytes before its end on. They
// are taken one at a time, as they may be among those that it appends.
func repeat(out []byte, offset, size int) []byte {
	for range size {
		out = append(out, out[len(out)-offset])
	}
	return out
}

// sequence takes the next sequence.
func (s *source) sequence() sequence {
	token := s.take(1)[0]
	literals := s.take(s.length(token >> lengthBits))
	if len(s.rest) == 0 {
		return sequence{literals: literals, last: true}
	}
	offset := s.take(2)
	return sequence{
		literals: literals,
		offset:   int(offset[0]) | int(offset[1])<<8,
		match:    s.length(token&tokenFull) + leastMatch,
	}
}

// length takes what extends a length that begins in a token.
func (s *source) length(start byte) int64 {
	// An int could be too small for it where it has 32 bits.
	n := int64(start)
	if start < tokenFull {
		return n
	}
	for {
		x := s.take(1)[0]
		n += int64(x)
		if x != byteFull {
			return n
		}
	}
}

// take takes n bytes. It panics with ErrShort if there are not so many.
func (s *source) take(n int64) []byte {
	if n > int64(len(s.rest)) {
		panic(api.ErrShort)
	}
	b := s.rest[:n]
	s.rest = s.rest[n:]
	return b
}
