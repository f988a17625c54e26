package crown

import (
	"bytes"
	"slices"
	"testing"

	"concertina/api"
)

// block is the block of a crown of a generation, which its number of sectors
// tells from others of the same generation.
func block(gen, sectors int) []byte { return plainBlock(crownOf(gen, sectors)) }

func crownOf(gen, sectors int) Crown {
	return with(func(c *Crown) { c.Gen, c.Sectors, c.Root.Kid.Gen = gen, sectors, 1 })
}

func mustChoose(t *testing.T, a, b []byte, want Crown, wantAt int) {
	t.Helper()
	if c, at, e := Choose(a, b); !same(c, want) || at != wantAt || e != api.OK {
		t.Errorf("Choose(%x, %x) = %+v, %d, %v, want %+v, %d, OK", a, b, c, at, e, want, wantAt)
	}
}

func mustNotChoose(t *testing.T, a, b []byte, want api.Errno) {
	t.Helper()
	if c, at, e := Choose(a, b); !same(c, Crown{}) || at != 0 || e != want {
		t.Errorf("Choose(%x, %x) = %+v, %d, %v, want no crown, 0, %v", a, b, c, at, e, want)
	}
}

// plainChoose is Choose as the chapter tells it, case by case.
func plainChoose(a, b []byte) (Crown, int, api.Errno) {
	l := [2][]byte{a, b}
	var blank [2]bool
	var crowns [2]Crown
	var errors [2]api.Errno
	for i, x := range l {
		blank[i] = bytes.Equal(x, make([]byte, 64))
		crowns[i], errors[i] = plainDecode(x)
	}
	if blank[0] && blank[1] {
		return Crown{}, 0, api.ErrNone
	}
	for i := range l {
		if blank[1-i] && errors[i] == api.OK && crowns[i].Gen == 1 {
			return crowns[i], i, api.OK
		}
	}
	if errors[0] != api.OK || errors[1] != api.OK {
		return Crown{}, 0, api.ErrSum
	}
	if crowns[0].Gen == crowns[1].Gen {
		return Crown{}, 0, api.ErrForm
	}
	if crowns[0].Gen > crowns[1].Gen {
		return crowns[0], 0, api.OK
	}
	return crowns[1], 1, api.OK
}

// bads is contents that neither decode nor are blank.
func bads() [][]byte {
	sum, gen, mark := block(1, 10), block(1, 10), block(1, 10)
	sum[60] ^= 1
	gen[2] = 0
	mark[0] = 0
	long := append(block(1, 10), 0)
	last := make([]byte, 64)
	last[63] = 1
	return [][]byte{
		nil, {}, make([]byte, 1), make([]byte, 63), make([]byte, 65), make([]byte, 128),
		block(1, 10)[:63], long, sum, summed(gen), summed(mark), summed(make([]byte, 64)), last,
		bytes.Repeat([]byte{0xff}, 64),
	}
}

func TestP16_2Blank(t *testing.T) {
	for n := range 200 {
		if got := Blank(make([]byte, n)); got != (n == api.Block) {
			t.Errorf("Blank of %d zero bytes = %v", n, got)
		}
	}
	if Blank(nil) {
		t.Error("Blank(nil)")
	}
	b := make([]byte, api.Block)
	for i := range b {
		for x := 1; x < 256; x++ {
			b[i] = byte(x)
			if Blank(b) {
				t.Errorf("Blank where byte %d is %d", i, x)
			}
		}
		b[i] = 0
	}
	if !Blank(append(b, 1)[:64]) || !Blank(append([]byte{1}, b...)[1:]) {
		t.Error("Blank looks at bytes beside its argument")
	}
	if Blank(block(1, 10)) {
		t.Error("Blank of a crown")
	}
}

func TestP16_2ChooseBothBlank(t *testing.T) {
	mustNotChoose(t, make([]byte, 64), make([]byte, 64), api.ErrNone)
	b := make([]byte, 64)
	mustNotChoose(t, b, b, api.ErrNone)
	// Zero bytes of another number are not a blank block.
	for _, n := range []int{0, 1, 63, 65, 128} {
		mustNotChoose(t, make([]byte, 64), make([]byte, n), api.ErrSum)
		mustNotChoose(t, make([]byte, n), make([]byte, 64), api.ErrSum)
		mustNotChoose(t, make([]byte, n), make([]byte, n), api.ErrSum)
	}
}

func TestP16_2ChooseOneBlank(t *testing.T) {
	blank := make([]byte, 64)
	mustChoose(t, blank, block(1, 10), crownOf(1, 10), 1)
	mustChoose(t, block(1, 10), blank, crownOf(1, 10), 0)
	for _, gen := range []int{2, 3, 4, 257, 1<<16 + 1, lastGen - 1, lastGen} {
		mustNotChoose(t, blank, block(gen, 10), api.ErrSum)
		mustNotChoose(t, block(gen, 10), blank, api.ErrSum)
	}
	for _, b := range bads() {
		mustNotChoose(t, blank, b, api.ErrSum)
		mustNotChoose(t, b, blank, api.ErrSum)
	}
}

func TestP16_2ChooseOneDoesNotDecode(t *testing.T) {
	for _, b := range bads() {
		for _, gen := range []int{1, 2, 3, lastGen} {
			mustNotChoose(t, b, block(gen, 10), api.ErrSum)
			mustNotChoose(t, block(gen, 10), b, api.ErrSum)
		}
		for _, d := range bads() {
			mustNotChoose(t, b, d, api.ErrSum)
		}
	}
}

func TestP16_2ChooseSameGen(t *testing.T) {
	for _, gen := range []int{1, 2, 7, 256, lastGen} {
		mustNotChoose(t, block(gen, 10), block(gen, 10), api.ErrForm)
		// However they differ otherwise.
		mustNotChoose(t, block(gen, 10), block(gen, 11), api.ErrForm)
		mustNotChoose(t, block(gen, 11), block(gen, 10), api.ErrForm)
	}
}

func TestP16_2ChooseGreaterGen(t *testing.T) {
	gens := []int{1, 2, 3, 9, 10, 127, 128, 255, 256, 257, 511, 512, 1 << 16, 1<<24 - 1, 1 << 24, lastGen - 1, lastGen}
	for i, low := range gens {
		for _, high := range gens[i+1:] {
			mustChoose(t, block(low, 10), block(high, 11), crownOf(high, 11), 1)
			mustChoose(t, block(high, 11), block(low, 10), crownOf(high, 11), 0)
			// The number of sectors has no part in it.
			mustChoose(t, block(low, 11), block(high, 10), crownOf(high, 10), 1)
		}
	}
}

// TestP16_2ChooseAgainstPlain gives Choose each two of many contents.
func TestP16_2ChooseAgainstPlain(t *testing.T) {
	l := append(bads(), make([]byte, 64))
	for _, gen := range []int{1, 2, 3, 255, 256, lastGen} {
		l = append(l, block(gen, 10), block(gen, 11))
	}
	for _, a := range l {
		for _, b := range l {
			c, at, e := plainChoose(a, b)
			if e == api.OK {
				mustChoose(t, a, b, c, at)
			} else {
				mustNotChoose(t, a, b, e)
			}
		}
	}
}

// TestP16_2ChooseWhileCrownsAreWritten writes crowns to the two blocks in turn,
// as whoever commits does, and breaks each in the middle of its write.
func TestP16_2ChooseWhileCrownsAreWritten(t *testing.T) {
	blocks := [2][]byte{make([]byte, 64), make([]byte, 64)}
	for gen := 1; gen <= 20; gen++ {
		at := gen % 2
		next := block(gen, 10+gen)
		for n := 1; n < 60; n++ {
			torn := blocks
			torn[at] = slices.Concat(next[:n], blocks[at][n:])
			if Blank(torn[at]) || bytes.Equal(torn[at], blocks[at]) || bytes.Equal(torn[at], next) {
				continue
			}
			mustNotChoose(t, torn[0], torn[1], api.ErrSum)
		}
		blocks[at] = next
		mustChoose(t, blocks[0], blocks[1], crownOf(gen, 10+gen), at)
	}
}

func TestP16_2LeavesItsArguments(t *testing.T) {
	l := append(bads(), make([]byte, 64), block(1, 10), block(2, 10))
	for _, a := range l {
		for _, b := range l {
			x, y := slices.Concat(a, []byte{1, 2}), slices.Concat(b, []byte{3, 4})
			Choose(x[:len(a)], y[:len(b)])
			Blank(x[:len(a)])
			if !bytes.Equal(x, slices.Concat(a, []byte{1, 2})) || !bytes.Equal(y, slices.Concat(b, []byte{3, 4})) {
				t.Errorf("Choose(%x, %x) left %x, %x", a, b, x, y)
			}
		}
	}
}
