package words

import (
	"concertina/api"
	"concertina/depth"
)

// sink is bytes to which bits are appended.
type sink struct {
	out []byte
	// free is how many bits of the last byte have not been written. They are 0.
	free int
}

// Pack returns a compressed form of b.
func Pack(b []byte) []byte {
	if len(b) > api.MaxData {
		return nil
	}
	var count [byteValues]int
	for _, x := range b {
		count[x]++
	}
	// There are lengths for all counts, as none is greater than api.MaxData.
	lengths, _ := depth.Lengths(count)
	codewords := canonical(lengths).codewords()
	s := &sink{out: appendTable(nil, lengths)}
	for _, x := range b {
		s.put(codewords[x], lengths[x])
	}
	return s.out
}

// codewords returns for each byte value its codeword, as a number.
func (c *code) codewords() [byteValues]int {
	var l [byteValues]int
	for length, values := range c.values {
		for i, x := range values {
			l[x] = c.first[length] + i
		}
	}
	return l
}

// appendTable appends the table of lengths.
func appendTable(out []byte, lengths [byteValues]int) []byte {
	for start := 0; start < byteValues; {
		run := equalFrom(lengths[start:])
		out = append(out, byte(lengths[start]<<runBits|(run-1)))
		start += run
	}
	return out
}

// equalFrom returns how many of the lengths, from the first one on, are equal,
// but no more than fit in one entry.
func equalFrom(lengths []int) int {
	n := 1
	for n < min(len(lengths), maxRun) && lengths[n] == lengths[0] {
		n++
	}
	return n
}

// put appends a codeword.
func (s *sink) put(codeword, length int) {
	for i := length - 1; i >= 0; i-- {
		s.bit(codeword >> i & 1)
	}
}

// bit appends one bit.
func (s *sink) bit(x int) {
	if s.free == 0 {
		s.out = append(s.out, 0)
		s.free = byteBits
	}
	s.free--
	s.out[len(s.out)-1] |= byte(x << s.free)
}
