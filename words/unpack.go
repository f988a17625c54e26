package words

import "concertina/api"

// source is the bytes and bits that have not been read.
type source struct {
	rest []byte
	// begun is the unread bits of the byte that has been begun, from its most
	// significant bit on, and left is how many they are. What follows them is 0.
	begun byte
	left  int
}

// Unpack decompresses b to exactly n bytes.
func Unpack(b []byte, n int) (out []byte, e api.Errno) {
	if n < 0 || n > api.MaxData {
		return nil, api.ErrArg
	}
	defer func() {
		switch x := recover(); x {
		case nil:
		case api.ErrShort:
			out, e = nil, api.ErrShort
		default:
			// This is a mistake in this package, and must not pass for a
			// missing bit.
			panic(x)
		}
	}()
	return decode(&source{rest: b}, n)
}

// decode is Unpack, but panics with ErrShort if a byte or a bit is missing.
func decode(s *source, n int) ([]byte, api.Errno) {
	lengths, e := s.table()
	if e != api.OK {
		return nil, e
	}
	c := canonical(lengths)
	if !c.allowed() {
		return nil, api.ErrForm
	}
	out := make([]byte, 0, n)
	for range n {
		x, ok := c.next(s)
		if !ok {
			return nil, api.ErrForm
		}
		out = append(out, x)
	}
	if e := s.end(); e != api.OK {
		return nil, e
	}
	return out, api.OK
}

// table takes the table of lengths.
func (s *source) table() ([byteValues]int, api.Errno) {
	var lengths [byteValues]int
	for start := 0; start < byteValues; {
		entry := s.take()
		length, run := int(entry>>runBits), int(entry%maxRun)+1
		if length > api.MaxLen || run > byteValues-start {
			return lengths, api.ErrForm
		}
		for range run {
			lengths[start] = length
			start++
		}
	}
	return lengths, api.OK
}

// allowed tells whether the code can be decoded: it must waste nothing, unless
// it has no codeword, or only one, of one bit.
func (c *code) allowed() bool {
	switch c.sum {
	case 0, 1 << api.MaxLen:
		return true
	case 1 << (api.MaxLen - 1):
		// If there is a codeword of one bit, it is the only one.
		return len(c.values[1]) == 1
	}
	return false
}

// next takes the next codeword and returns its byte value, or false where the
// bits are not the beginning of a codeword.
func (c *code) next(s *source) (byte, bool) {
	bits := 0
	// All continuations of the codewords to api.MaxLen bits are the numbers
	// below the Kraft sum.
	for length := 0; bits<<(api.MaxLen-length) < c.sum; length++ {
		// The bits are never below the first codeword of their length, as they
		// continue none that is shorter.
		i := bits - c.first[length]
		if i < len(c.values[length]) {
			return c.values[length][i], true
		}
		bits = bits<<1 | s.bit()
	}
	return 0, false
}

// end tells what is wrong with what has not been read.
func (s *source) end() api.Errno {
	if len(s.rest) > 0 {
		return api.ErrLong
	}
	if s.begun != 0 {
		return api.ErrForm
	}
	return api.OK
}

// bit takes one bit. It panics with ErrShort if there is none.
func (s *source) bit() int {
	if s.left == 0 {
		s.begun = s.take()
		s.left = byteBits
	}
	x := int(s.begun >> (byteBits - 1))
	s.begun <<= 1
	s.left--
	return x
}

// take takes one byte. It panics with ErrShort if there is none.
func (s *source) take() byte {
	if len(s.rest) == 0 {
		panic(api.ErrShort)
	}
	x := s.rest[0]
	s.rest = s.rest[1:]
	return x
}
