package node

import (
	"bytes"
	"encoding/binary"
	"math/rand"
	"reflect"
	"slices"
	"testing"

	"concertina/api"
)

// coded is numbers as package cell encodes them.
func coded(l ...int) []byte {
	var b []byte
	for _, x := range l {
		b = binary.AppendUvarint(b, uint64(x))
	}
	return b
}

// numbers is what the chapter says is encoded of n, in its order.
func numbers(n Node) []int {
	l := []int{n.Height, len(n.Keys)}
	for i, key := range n.Keys {
		if n.Height == 0 {
			p := n.Places[i]
			l = append(l, key, p.At, p.N, p.Slot, n.Gens[i])
		} else {
			k := n.Kids[i]
			l = append(l, key, k.At, k.N, k.Gen)
		}
	}
	return l
}

func mustEncode(t *testing.T, n Node, want []byte) {
	t.Helper()
	if b, e := Encode(n); e != api.OK || !bytes.Equal(b, want) {
		t.Errorf("Encode(%+v) = %x, %v, want %x", n, b, e, want)
	}
}

func mustDecode(t *testing.T, b []byte, want Node, wantE api.Errno) {
	t.Helper()
	if n, e := Decode(b); e != wantE || !equal(n, want) {
		t.Errorf("Decode(%x) = %+v, %v, want %+v, %v", b, n, e, want, wantE)
	}
}

func mustNotDecode(t *testing.T, b []byte, want api.Errno) {
	t.Helper()
	mustDecode(t, b, Node{}, want)
}

// known is nodes and their bytes.
func known() map[string]Node {
	return map[string]Node{
		"\x00\x00":                     {},
		"\x00\x01\x05\x06\x01\x02\x09": {Keys: []int{5}, Places: []api.Place{{At: 6, N: 1, Slot: 2}}, Gens: []int{9}},
		"\x00\x02\x00\x02\x01\x00\x00\xac\x02\xae\x02\x02\x01\x64": {
			Keys: []int{0, 300}, Places: []api.Place{{At: 2, N: 1}, {At: 302, N: 2, Slot: 1}}, Gens: []int{0, 100},
		},
		"\x01\x01\x05\x06\x01\x02": {Height: 1, Keys: []int{5}, Kids: []Kid{{At: 6, N: 1, Gen: 2}}},
		"\x02\x02\x00\xc8\x01\x02\x00\x09\xc9\x01\x02\x01": {
			Height: 2, Keys: []int{0, 9}, Kids: []Kid{{At: 200, N: 2}, {At: 201, N: 2, Gen: 1}},
		},
		"\x00\x01\xff\x03\x80\x3f\x80\x01\x07\xff\xff\xff\x7f": {
			Keys: []int{511}, Places: []api.Place{{At: 8064, N: 128, Slot: 7}}, Gens: []int{mostGen},
		},
		"\x05\x01\xff\x03\xff\x3f\x01\xff\xff\xff\x7f": {Height: 5, Keys: []int{511}, Kids: []Kid{{At: 8191, N: 1, Gen: mostGen}}},
	}
}

func TestP13_2Known(t *testing.T) {
	for b, n := range known() {
		mustEncode(t, n, []byte(b))
		mustDecode(t, []byte(b), n, api.OK)
	}
}

// Of an empty list nothing is encoded, so that it comes back as none.
func TestP13_2EmptyLists(t *testing.T) {
	mustEncode(t, Node{Keys: []int{}, Places: []api.Place{}, Gens: []int{}, Kids: []Kid{}}, []byte{0, 0})
	for b, n := range known() {
		mustEncode(t, with(n, func(n *Node) {
			if n.Height == 0 {
				n.Kids = []Kid{}
			} else {
				n.Places, n.Gens = []api.Place{}, []int{}
			}
		}), []byte(b))
	}
}

func TestP13_2AllNumbers(t *testing.T) {
	for count := range 9 {
		n := leafOf(counted(count, 60)...)
		mustEncode(t, n, coded(numbers(n)...))
		mustDecode(t, coded(numbers(n)...), n, api.OK)
		for height := 1; height <= 5 && count > 0; height++ {
			n := innerOf(height, counted(count, 60)...)
			mustEncode(t, n, coded(numbers(n)...))
			mustDecode(t, coded(numbers(n)...), n, api.OK)
		}
	}
}

func TestP13_2ThereAndBack(t *testing.T) {
	r := rand.New(rand.NewSource(4))
	for range 50000 {
		n := validNode(r)
		b := coded(numbers(n)...)
		mustEncode(t, n, b)
		mustDecode(t, b, n, api.OK)
	}
}

func TestP13_2EncodeInvalid(t *testing.T) {
	for _, n := range []Node{
		{Height: -1}, {Height: 1}, {Height: 6}, {Keys: []int{1}}, {Gens: []int{1}}, {Kids: make([]Kid, 1)},
		leafOf(3, 3), leafOf(512), leafOf(-1), leafOf(counted(9, 1)...), innerOf(6, 3), innerOf(-1, 3), innerOf(0, 3),
		with(leafOf(3), func(n *Node) { n.Places[0].Slot = 8 }),
		// These numbers would make package cell panic.
		with(leafOf(3), func(n *Node) { n.Gens[0] = -1 }),
		with(leafOf(3), func(n *Node) { n.Gens[0] = 1 << 28 }),
		with(innerOf(1, 3), func(n *Node) { n.Kids[0].Gen = 1 << 28 }),
		with(innerOf(1, 3), func(n *Node) { n.Kids[0].At = -1 }),
	} {
		if b, e := Encode(n); e != api.ErrArg || len(b) != 0 {
			t.Errorf("Encode(%+v) = %x, %v, want none, ErrArg", n, b, e)
		}
	}
}

func TestP13_2EncodeIsNewMemory(t *testing.T) {
	for want, n := range known() {
		one, _ := Encode(n)
		clear(one[:cap(one)])
		two, _ := Encode(n)
		if string(two) != want {
			t.Errorf("Encode(%+v) = %x after what it returned was cleared, want %x", n, two, want)
		}
		clear(n.Keys)
		clear(n.Places)
		clear(n.Gens)
		clear(n.Kids)
		if string(two) != want {
			t.Errorf("what Encode returned changed to %x with its argument, want %x", two, want)
		}
	}
}

// badNumbers is bytes that are no number.
func badNumbers() [][]byte {
	return [][]byte{{0x80, 0}, {0x81, 0}, {0x80, 0x80, 0}, {0xff, 0xff, 0xff, 0}, {0xff, 0xff, 0xff, 0x80}, {0x80, 0x80, 0x80, 0x80, 1}}
}

func TestP13_2DecodeShort(t *testing.T) {
	mustNotDecode(t, nil, api.ErrShort)
	mustNotDecode(t, []byte{}, api.ErrShort)
	for b := range known() {
		for n := range len(b) {
			mustNotDecode(t, []byte(b)[:n], api.ErrShort)
		}
	}
	// The number of keys says how many are read.
	for count := range 8 {
		l := numbers(leafOf(counted(count, 60)...))
		l[1]++
		mustNotDecode(t, coded(l...), api.ErrShort)
	}
}

func TestP13_2DecodeLong(t *testing.T) {
	for b := range known() {
		for _, more := range [][]byte{{0}, {1}, {0x80}, {0xff, 0xff, 0xff, 0xff}, make([]byte, 1000), []byte(b)} {
			mustNotDecode(t, append([]byte(b), more...), api.ErrLong)
		}
	}
	for count := 1; count <= 8; count++ {
		l := numbers(leafOf(counted(count, 60)...))
		l[1]--
		mustNotDecode(t, coded(l...), api.ErrLong)
	}
	// As a leaf or as an inner node there would be too few numbers, or too many.
	mustNotDecode(t, coded(1, 1, 5, 6, 1, 2, 9), api.ErrLong)
	mustNotDecode(t, coded(0, 1, 5, 6, 1, 2), api.ErrShort)
}

// Each number of a node may be the one that is malformed.
func TestP13_2DecodeBadNumbers(t *testing.T) {
	for _, n := range []Node{{}, leafOf(3), leafOf(counted(8, 60)...), innerOf(2, 3), innerOf(2, counted(8, 60)...)} {
		l := numbers(n)
		for i := range l {
			for _, bad := range badNumbers() {
				mustNotDecode(t, slices.Concat(coded(l[:i]...), bad, coded(l[i+1:]...)), api.ErrForm)
				mustNotDecode(t, slices.Concat(coded(l[:i]...), bad), api.ErrForm)
			}
			mustNotDecode(t, append(coded(l[:i]...), 0x80), api.ErrShort)
			mustNotDecode(t, append(coded(l[:i]...), 0xff, 0xff, 0xff), api.ErrShort)
		}
	}
}

func TestP13_2DecodeTooManyKeys(t *testing.T) {
	for _, count := range []int{9, 10, 16, 100, 127, 128, 256, 264, 1 << 14, 1 << 21, mostGen - 1, mostGen} {
		for _, height := range []int{0, 1, 5, 6, mostGen} {
			head := coded(height, count)
			mustNotDecode(t, head, api.ErrForm)
			// Whatever is behind it.
			mustNotDecode(t, append(head, 0), api.ErrForm)
			mustNotDecode(t, append(head, 0x80), api.ErrForm)
			mustNotDecode(t, append(head, make([]byte, 500)...), api.ErrForm)
			for _, bad := range badNumbers() {
				mustNotDecode(t, append(head, bad...), api.ErrForm)
			}
		}
	}
	for _, height := range []int{0, 1} {
		n := leafOf(counted(9, 1)...)
		if height == 1 {
			n = innerOf(1, counted(9, 1)...)
		}
		mustNotDecode(t, coded(numbers(n)...), api.ErrForm)
		mustNotDecode(t, append(coded(numbers(n)...), 0), api.ErrForm)
		mustNotDecode(t, coded(numbers(n)...)[:20], api.ErrForm)
	}
}

func TestP13_2DecodeInvalid(t *testing.T) {
	invalid := [][]int{
		// An inner node without keys, and heights that there are not.
		{1, 0}, {5, 0}, {6, 0}, {7, 0}, {mostGen, 0},
		{6, 1, 5, 6, 1, 2}, {7, 1, 5, 6, 1, 2}, {mostGen, 1, 5, 6, 1, 2},
		// Keys.
		{0, 1, 512, 6, 1, 2, 9}, {0, 1, mostGen, 6, 1, 2, 9}, {1, 1, 512, 6, 1, 2},
		{0, 2, 5, 6, 1, 2, 9, 5, 6, 1, 2, 9}, {0, 2, 6, 6, 1, 2, 9, 5, 6, 1, 2, 9}, {1, 2, 5, 6, 1, 2, 5, 6, 1, 2}, {1, 2, 6, 6, 1, 2, 5, 6, 1, 2},
		// Frames.
		{0, 1, 5, 8192, 1, 2, 9}, {0, 1, 5, 8191, 2, 2, 9}, {0, 1, 5, 6, 0, 2, 9}, {0, 1, 5, 6, 129, 2, 9}, {0, 1, 5, mostGen, 1, 2, 9},
		{1, 1, 5, 8192, 1, 2}, {1, 1, 5, 8191, 2, 2}, {1, 1, 5, 6, 0, 2}, {1, 1, 5, 6, 129, 2}, {1, 1, 5, 6, mostGen, 2},
		// Slots.
		{0, 1, 5, 6, 1, 8, 9}, {0, 1, 5, 6, 1, mostGen, 9},
	}
	for _, l := range invalid {
		b := coded(l...)
		mustNotDecode(t, b, api.ErrForm)
		// What is wrong with the bytes comes first.
		mustNotDecode(t, append(slices.Clone(b), 0), api.ErrLong)
		if len(l) > 2 {
			mustNotDecode(t, b[:len(b)-1], api.ErrShort)
		}
	}
}

// plainNum is the number at the start of b, its length, and the error.
func plainNum(b []byte) (int, int, api.Errno) {
	x := 0
	for i := 0; ; i++ {
		if i == len(b) {
			return 0, 0, api.ErrShort
		}
		x += int(b[i]%128) << (7 * i)
		if i == 3 && b[i] >= 128 || b[i] == 0 && i > 0 {
			return 0, 0, api.ErrForm
		}
		if b[i] < 128 {
			return x, i + 1, api.OK
		}
	}
}

// plainNums is the first count numbers of b, and what is behind them.
func plainNums(b []byte, count int) ([]int, []byte, api.Errno) {
	var l []int
	for range count {
		x, size, e := plainNum(b)
		if e != api.OK {
			return nil, nil, e
		}
		l, b = append(l, x), b[size:]
	}
	return l, b, api.OK
}

// plainDecode is Decode as the chapter tells it, step by step.
func plainDecode(b []byte) (Node, api.Errno) {
	head, rest, e := plainNums(b, 2)
	if e != api.OK {
		return Node{}, e
	}
	if head[1] > api.Fan {
		return Node{}, api.ErrForm
	}
	each := 5
	if head[0] != 0 {
		each = 4
	}
	l, rest, e := plainNums(rest, each*head[1])
	if e != api.OK {
		return Node{}, e
	}
	if len(rest) > 0 {
		return Node{}, api.ErrLong
	}
	n := Node{Height: head[0]}
	for x := range slices.Chunk(l, each) {
		n.Keys = append(n.Keys, x[0])
		if head[0] == 0 {
			n.Places = append(n.Places, api.Place{At: x[1], N: x[2], Slot: x[3]})
			n.Gens = append(n.Gens, x[4])
		} else {
			n.Kids = append(n.Kids, Kid{At: x[1], N: x[2], Gen: x[3]})
		}
	}
	if !plainMay(n) {
		return Node{}, api.ErrForm
	}
	return n, api.OK
}

// mustDecodeAsPlain returns the error.
func mustDecodeAsPlain(t *testing.T, b []byte) api.Errno {
	t.Helper()
	want, wantE := plainDecode(b)
	mustDecode(t, b, want, wantE)
	return wantE
}

// All short bytes of an alphabet with which numbers begin, go on and end.
func TestP13_2DecodeAllShort(t *testing.T) {
	for _, c := range []struct {
		letters []byte
		length  int
	}{
		{letters: []byte{0, 1, 2, 9, 0x80}, length: 7},
		{letters: []byte{0, 1, 0x80}, length: 9},
		{letters: []byte{0, 1}, length: 14},
	} {
		b := make([]byte, 0, c.length)
		var try func()
		try = func() {
			mustDecodeAsPlain(t, b)
			if len(b) == c.length {
				return
			}
			for _, x := range c.letters {
				b = append(b, x)
				try()
				b = b[:len(b)-1]
			}
		}
		try()
	}
	for x := range 1 << 16 {
		mustDecodeAsPlain(t, []byte{byte(x), byte(x >> 8)})
	}
}

// spoil changes the bytes of a node.
func spoil(r *rand.Rand, b []byte) []byte {
	b = slices.Clone(b)
	for range 1 + r.Intn(3) {
		i := r.Intn(len(b) + 1)
		switch {
		case r.Intn(6) == 0:
			b = append(b, byte(r.Intn(256)))
		case r.Intn(6) == 0:
			b = b[:max(i, 1)]
		case r.Intn(4) == 0:
			b = slices.Insert(b, i, byte(r.Intn(256)))
		case i < len(b):
			b[i] ^= 1 << r.Intn(8)
		}
	}
	return b
}

func TestP13_2DecodeAgainstPlain(t *testing.T) {
	r := rand.New(rand.NewSource(5))
	seen := map[api.Errno]int{}
	for range 200000 {
		n := validNode(r)
		seen[mustDecodeAsPlain(t, spoil(r, coded(numbers(n)...)))]++
	}
	for _, e := range []api.Errno{api.OK, api.ErrShort, api.ErrLong, api.ErrForm} {
		if seen[e] < 1000 {
			t.Errorf("%v was the result %d times", e, seen[e])
		}
	}
}

// With an error, and where a node has no such list, there is none.
func TestP13_2DecodeHasNoOtherLists(t *testing.T) {
	for b, want := range known() {
		n, _ := Decode([]byte(b))
		if want.Height == 0 && n.Kids != nil || want.Height > 0 && (n.Places != nil || n.Gens != nil) {
			t.Errorf("Decode(%x) = %+v", b, n)
		}
		for _, bad := range [][]byte{[]byte(b)[:len(b)-1], append([]byte(b), 0)} {
			if n, e := Decode(bad); e == api.OK || !reflect.DeepEqual(n, Node{}) {
				t.Errorf("Decode(%x) = %+v, %v", bad, n, e)
			}
		}
	}
}

func TestP13_2DecodeLeavesItsArgument(t *testing.T) {
	r := rand.New(rand.NewSource(6))
	for range 2000 {
		b := append(spoil(r, coded(numbers(validNode(r))...)), "behind"...)
		kept := slices.Clone(b)
		end := len(b) - len("behind")
		want, wantE := Decode(slices.Clone(b[:end]))
		n, e := Decode(b[:end])
		if !bytes.Equal(b, kept) {
			t.Fatalf("Decode changed its argument %x to %x", kept, b)
		}
		clear(b)
		if e != wantE || !equal(n, want) {
			t.Fatalf("Decode(%x) = %+v, %v, want %+v, %v", kept[:end], n, e, want, wantE)
		}
	}
}

// fill overwrites all that n has, spare capacity included.
func fill(n Node) {
	n = whole(n)
	for i := range n.Keys {
		n.Keys[i] = -7
	}
	for i := range n.Gens {
		n.Gens[i] = -8
	}
	clear(n.Places)
	clear(n.Kids)
}

func TestP13_2DecodeIsNewMemory(t *testing.T) {
	for b, want := range known() {
		one, _ := Decode([]byte(b))
		two, _ := Decode([]byte(b))
		fill(one)
		if !equal(two, want) {
			t.Errorf("two results of Decode(%x) share memory: %+v", b, two)
		}
		mustDecode(t, []byte(b), want, api.OK)
		// Nor do two lists of one result.
		keys := two.Keys[:cap(two.Keys)]
		for i := range keys {
			keys[i] = -7
		}
		if !slices.Equal(two.Gens, want.Gens) {
			t.Errorf("two lists of Decode(%x) share memory: %+v", b, two)
		}
	}
}
