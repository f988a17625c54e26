package crown

import (
	"math"

	"concertina/api"
	"concertina/node"
	"concertina/tally"
	"concertina/tree"
)

const (
	firstMark  = 0xc0
	secondMark = 0x9e
)

// Where the fields of a crown begin, behind the two bytes that mark it.
const (
	genAt     = 2
	blocksAt  = 6
	sectorsAt = 10
	kidAt     = 14
	kidSizeAt = 18
	kidGenAt  = 22
	heightAt  = 26
	gainAt    = 30
	zeroAt    = 38
	sumAt     = api.Block - 4
)

// Encode returns the block of a crown.
func Encode(c Crown) ([]byte, api.Errno) {
	if !May(c) {
		return nil, api.ErrArg
	}
	b := make([]byte, api.Block)
	b[0], b[1] = firstMark, secondMark
	putNumber(b[genAt:], c.Gen)
	putNumber(b[blocksAt:], c.Blocks)
	putNumber(b[sectorsAt:], c.Sectors)
	putNumber(b[kidAt:], c.Root.Kid.At)
	putNumber(b[kidSizeAt:], c.Root.Kid.N)
	putNumber(b[kidGenAt:], c.Root.Kid.Gen)
	putNumber(b[heightAt:], c.Root.Height)
	putBits(b[gainAt:zeroAt], math.Float64bits(c.Gain))
	putBits(b[sumAt:], uint64(tally.Sum(b[:sumAt])))
	return b, api.OK
}

// Decode returns the crown of a block.
func Decode(b []byte) (Crown, api.Errno) {
	if len(b) != api.Block {
		return Crown{}, api.ErrArg
	}
	if bits(b[sumAt:]) != uint64(tally.Sum(b[:sumAt])) {
		return Crown{}, api.ErrSum
	}
	c := fields(b)
	if b[0] != firstMark || b[1] != secondMark || !May(c) || !isZero(b[zeroAt:sumAt]) {
		return Crown{}, api.ErrForm
	}
	return c, api.OK
}

// Blank tells whether b is a block on which nothing has been written.
func Blank(b []byte) bool {
	return len(b) == api.Block && isZero(b)
}

// fields returns the crown that a block tells, valid or not.
func fields(b []byte) Crown {
	return Crown{
		Gen:     number(b[genAt:]),
		Blocks:  number(b[blocksAt:]),
		Sectors: number(b[sectorsAt:]),
		Gain:    math.Float64frombits(bits(b[gainAt:zeroAt])),
		Root: tree.Root{
			Kid: node.Kid{
				At:  number(b[kidAt:]),
				N:   number(b[kidSizeAt:]),
				Gen: number(b[kidGenAt:]),
			},
			Height: number(b[heightAt:]),
		},
	}
}

// putNumber stores x in the first four bytes of b.
func putNumber(b []byte, x int) {
	putBits(b[:4], uint64(x))
}

// number reads what putNumber has stored.
func number(b []byte) int {
	// Where an int has 32 bits, a great number becomes negative, which is no more
	// valid in a crown than the great one is.
	return int(bits(b[:4]))
}

// putBits stores x in all bytes of b, lowest byte first.
func putBits(b []byte, x uint64) {
	for i := range b {
		b[i] = byte(x >> (8 * i))
	}
}

// bits reads what putBits has stored.
func bits(b []byte) uint64 {
	var x uint64
	for i := range b {
		x |= uint64(b[i]) << (8 * i)
	}
	return x
}

// isZero tells whether all bytes of b are 0.
func isZero(b []byte) bool {
	for _, x := range b {
		if x != 0 {
			return false
		}
	}
	return true
}
