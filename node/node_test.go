package node

import (
	"math"
	"math/rand"
	"reflect"
	"slices"
	"testing"

	"concertina/api"
)

const mostGen = 1<<28 - 1

// extremes is numbers that are far beyond all limits.
var extremes = [...]int{math.MinInt, math.MinInt + 1, -1 << 40, -1 << 28, -1000, 1 << 28, 1 << 31, 1<<32 + 1, 1 << 62, math.MaxInt - 1, math.MaxInt}

// counted is the first n keys that are multiples of step.
func counted(n, step int) []int {
	l := make([]int, n)
	for i := range l {
		l[i] = i * step
	}
	return l
}

// leafOf is a valid leaf, if these keys may be in one.
func leafOf(keys ...int) Node {
	n := Node{Keys: keys}
	for i := range keys {
		n.Places = append(n.Places, api.Place{At: 100 + 7*i, N: 1 + i, Slot: i % api.Slots})
		n.Gens = append(n.Gens, 1000+i)
	}
	return n
}

// innerOf is a valid inner node, if these keys may be in one.
func innerOf(height int, keys ...int) Node {
	n := Node{Height: height, Keys: keys}
	for i := range keys {
		n.Kids = append(n.Kids, Kid{At: 300 + 9*i, N: 1 + i, Gen: 2000 + i})
	}
	return n
}

// copied is a node that shares nothing with n.
func copied(n Node) Node {
	return Node{Height: n.Height, Keys: slices.Clone(n.Keys), Places: slices.Clone(n.Places), Gens: slices.Clone(n.Gens), Kids: slices.Clone(n.Kids)}
}

// with is a copy of n that f has changed.
func with(n Node, f func(n *Node)) Node {
	n = copied(n)
	f(&n)
	return n
}

// equal tells whether two nodes are alike; no list is like an empty one.
func equal(a, b Node) bool {
	return a.Height == b.Height && slices.Equal(a.Keys, b.Keys) && slices.Equal(a.Places, b.Places) && slices.Equal(a.Gens, b.Gens) && slices.Equal(a.Kids, b.Kids)
}

// in tells whether x is from low to high.
func in(x, low, high int) bool { return low <= x && x <= high }

// plainMay is May as the chapter tells it, sentence by sentence.
func plainMay(n Node) bool {
	ok := in(n.Height, 0, api.MaxHeight-1) && len(n.Keys) <= api.Fan
	for i, k := range n.Keys {
		ok = ok && in(k, 0, api.MaxSectors-1)
		for _, before := range n.Keys[:i] {
			ok = ok && before < k
		}
	}
	if n.Height == 0 {
		ok = ok && len(n.Places) == len(n.Keys) && len(n.Gens) == len(n.Keys) && len(n.Kids) == 0
	} else {
		ok = ok && len(n.Keys) >= 1 && len(n.Kids) == len(n.Keys) && len(n.Places) == 0 && len(n.Gens) == 0
	}
	frame := func(at, size int) bool {
		return in(at, 0, api.MaxBlocks-1) && in(size, 1, 128) && at+size <= api.MaxBlocks
	}
	for _, p := range n.Places {
		ok = ok && frame(p.At, p.N) && in(p.Slot, 0, api.Slots-1)
	}
	for _, k := range n.Kids {
		ok = ok && frame(k.At, k.N) && in(k.Gen, 0, mostGen)
	}
	for _, g := range n.Gens {
		ok = ok && in(g, 0, mostGen)
	}
	return ok
}

// mustMay wants May to hold, or not to, and Encode to see it likewise.
func mustMay(t *testing.T, n Node, want bool) {
	t.Helper()
	if got := May(n); got != want {
		t.Errorf("May(%+v) = %v, want %v", n, got, want)
	}
	b, e := Encode(n)
	if !want && (e != api.ErrArg || len(b) != 0) {
		t.Errorf("Encode(%+v) = %x, %v, want none, ErrArg", n, b, e)
	}
	if want && (e != api.OK || len(b) < 2) {
		t.Errorf("Encode(%+v) = %x, %v", n, b, e)
	}
}

func TestP13_1Heights(t *testing.T) {
	mustMay(t, leafOf(3, 5), true)
	mustMay(t, Node{}, true)
	for height := 1; height <= 5; height++ {
		mustMay(t, innerOf(height, 3, 5), true)
	}
	for _, height := range append(extremes[:], -2, -1, 6, 7, 8, 63, 64) {
		mustMay(t, innerOf(height, 3, 5), false)
		mustMay(t, with(leafOf(3, 5), func(n *Node) { n.Height = height }), false)
		mustMay(t, Node{Height: height}, false)
	}
}

// What a node has must be what its height says.
func TestP13_1Kinds(t *testing.T) {
	mustMay(t, innerOf(0, 3, 5), false)
	for height := 1; height <= 5; height++ {
		mustMay(t, with(leafOf(3, 5), func(n *Node) { n.Height = height }), false)
		mustMay(t, with(leafOf(), func(n *Node) { n.Height = height }), false)
		mustMay(t, with(innerOf(height, 3, 5), func(n *Node) { n.Height = 0 }), false)
	}
	both := leafOf(3, 5)
	both.Kids = innerOf(1, 3, 5).Kids
	for height := range 6 {
		both.Height = height
		mustMay(t, both, false)
	}
}

func TestP13_1Counts(t *testing.T) {
	for _, step := range []int{1, 5} {
		for count := range 60 {
			keys := counted(count, step)
			mustMay(t, leafOf(keys...), count <= 8)
			for height := 1; height <= 5; height++ {
				mustMay(t, innerOf(height, keys...), count >= 1 && count <= 8)
			}
		}
	}
}

func TestP13_1KeysAreSectors(t *testing.T) {
	for count := 1; count <= 8; count++ {
		low, high := counted(count, 1), counted(count, 1)
		for i := range high {
			high[i] = 512 - count + i
		}
		for _, keys := range [][]int{low, high} {
			mustMay(t, leafOf(keys...), true)
			mustMay(t, innerOf(1, keys...), true)
		}
		for _, x := range append(extremes[:], -1, 512, 513) {
			keys := slices.Clone(low)
			if x < 0 {
				keys[0] = x
			} else {
				keys[count-1] = x
			}
			mustMay(t, leafOf(keys...), false)
			mustMay(t, innerOf(1, keys...), false)
		}
	}
}

func TestP13_1KeysAscend(t *testing.T) {
	for count := 2; count <= 8; count++ {
		for i := 1; i < count; i++ {
			// Each neighbour must be greater, not only the first key's.
			for _, less := range []int{0, 1, 10} {
				keys := counted(count, 10)
				keys[i] = max(keys[i-1]-less, 0)
				mustMay(t, leafOf(keys...), false)
				mustMay(t, innerOf(2, keys...), false)
			}
			keys := counted(count, 10)
			keys[i] = keys[i-1] + 1
			mustMay(t, leafOf(keys...), true)
			mustMay(t, innerOf(2, keys...), true)
		}
		keys := counted(count, 10)
		slices.Reverse(keys)
		mustMay(t, leafOf(keys...), false)
		mustMay(t, innerOf(2, keys...), false)
	}
}

func TestP13_1LeafLists(t *testing.T) {
	for count := range 9 {
		n := leafOf(counted(count, 3)...)
		more := leafOf(counted(count+1, 3)...)
		mustMay(t, with(n, func(n *Node) { n.Places = more.Places }), false)
		mustMay(t, with(n, func(n *Node) { n.Gens = more.Gens }), false)
		mustMay(t, with(n, func(n *Node) { n.Places, n.Gens = more.Places, more.Gens }), false)
		mustMay(t, with(n, func(n *Node) { n.Keys = more.Keys }), false)
		mustMay(t, with(n, func(n *Node) { n.Kids = make([]Kid, 1) }), false)
		mustMay(t, with(n, func(n *Node) { n.Kids = innerOf(1, counted(max(count, 1), 3)...).Kids }), false)
		if count == 0 {
			continue
		}
		mustMay(t, with(n, func(n *Node) { n.Places = n.Places[:count-1] }), false)
		mustMay(t, with(n, func(n *Node) { n.Gens = n.Gens[:count-1] }), false)
		mustMay(t, with(n, func(n *Node) { n.Keys = n.Keys[:count-1] }), false)
		mustMay(t, with(n, func(n *Node) { n.Places = nil }), false)
		mustMay(t, with(n, func(n *Node) { n.Gens = nil }), false)
		mustMay(t, with(n, func(n *Node) { n.Places, n.Gens = nil, nil }), false)
	}
}

func TestP13_1InnerLists(t *testing.T) {
	for count := 1; count <= 8; count++ {
		n := innerOf(1, counted(count, 3)...)
		more := innerOf(1, counted(count+1, 3)...)
		mustMay(t, with(n, func(n *Node) { n.Kids = more.Kids }), false)
		mustMay(t, with(n, func(n *Node) { n.Keys = more.Keys }), false)
		mustMay(t, with(n, func(n *Node) { n.Kids = n.Kids[:count-1] }), false)
		mustMay(t, with(n, func(n *Node) { n.Keys = n.Keys[:count-1] }), false)
		mustMay(t, with(n, func(n *Node) { n.Kids = nil }), false)
		mustMay(t, with(n, func(n *Node) { n.Places = leafOf(1).Places }), false)
		mustMay(t, with(n, func(n *Node) { n.Gens = []int{0} }), false)
		mustMay(t, with(n, func(n *Node) { n.Places = leafOf(n.Keys...).Places }), false)
		mustMay(t, with(n, func(n *Node) { n.Gens = make([]int, count) }), false)
	}
}

func TestP13_1EmptyListsAreNone(t *testing.T) {
	mustMay(t, Node{Keys: []int{}, Places: []api.Place{}, Gens: []int{}, Kids: []Kid{}}, true)
	mustMay(t, with(leafOf(3), func(n *Node) { n.Kids = []Kid{} }), true)
	mustMay(t, with(innerOf(1, 3), func(n *Node) { n.Places, n.Gens = []api.Place{}, []int{} }), true)
	mustMay(t, Node{Height: 1, Keys: []int{}, Kids: []Kid{}}, false)
}

// frames is first blocks with numbers of blocks, and whether a frame can have
// them.
func frames() map[[2]int]bool {
	m := map[[2]int]bool{
		{0, 1}: true, {0, 2}: true, {0, 127}: true, {0, 128}: true, {1, 1}: true, {2, 128}: true,
		{0, 0}: false, {0, -1}: false, {0, 129}: false, {0, 130}: false, {0, 256}: false, {0, 8192}: false,
		{-1, 1}: false, {-1, 2}: false, {-1, 128}: false, {-128, 128}: false,
		{8191, 1}: true, {8190, 1}: true, {8190, 2}: true, {8064, 128}: true, {8063, 128}: true, {8063, 129}: false, {8000, 192}: false,
		{8191, 2}: false, {8190, 3}: false, {8065, 128}: false, {8191, 128}: false, {8191, 0}: false,
		{8192, 1}: false, {8192, 0}: false, {8192, -1}: false, {8193, 1}: false, {8193, -1}: false,
	}
	for _, x := range extremes {
		for _, y := range []int{-1, 0, 1, 128, 8191} {
			m[[2]int{x, y}], m[[2]int{y, x}] = false, false
		}
		for _, y := range extremes {
			m[[2]int{x, y}] = false
		}
	}
	return m
}

func TestP13_1Frames(t *testing.T) {
	for f, want := range frames() {
		for count := 1; count <= 8; count++ {
			for i := range count {
				mustMay(t, with(leafOf(counted(count, 3)...), func(n *Node) { n.Places[i].At, n.Places[i].N = f[0], f[1] }), want)
				mustMay(t, with(innerOf(3, counted(count, 3)...), func(n *Node) { n.Kids[i].At, n.Kids[i].N = f[0], f[1] }), want)
			}
		}
	}
}

func TestP13_1Slots(t *testing.T) {
	for _, slot := range append(extremes[:], -2, -1, 0, 1, 2, 3, 4, 5, 6, 7, 8, 9, 16, 128) {
		for count := 1; count <= 8; count++ {
			for i := range count {
				n := with(leafOf(counted(count, 3)...), func(n *Node) { n.Places[i].Slot = slot })
				mustMay(t, n, slot >= 0 && slot <= 7)
			}
		}
	}
}

func TestP13_1Gens(t *testing.T) {
	for _, gen := range append(extremes[:], -2, -1, 0, 1, 127, 128, 1<<27, 1<<28-2, 1<<28-1, 1<<28, 1<<28+1, 1<<31-1) {
		want := gen >= 0 && gen < 1<<28
		for count := 1; count <= 8; count++ {
			for i := range count {
				mustMay(t, with(leafOf(counted(count, 3)...), func(n *Node) { n.Gens[i] = gen }), want)
				mustMay(t, with(innerOf(3, counted(count, 3)...), func(n *Node) { n.Kids[i].Gen = gen }), want)
			}
		}
	}
}

// Nothing asks how entries of one node go together, or for a frame that can have
// a node's bytes.
func TestP13_1NoMoreThanTheChapterAsks(t *testing.T) {
	p := api.Place{At: 0, N: 128, Slot: 7}
	mustMay(t, Node{Keys: []int{0, 511}, Places: []api.Place{p, p}, Gens: []int{0, mostGen}}, true)
	mustMay(t, Node{Keys: []int{0, 1}, Places: []api.Place{{At: 9, N: 3}, {At: 8, N: 2}}, Gens: []int{2, 1}}, true)
	k := Kid{At: 1, N: 128, Gen: 5}
	mustMay(t, Node{Height: 5, Keys: []int{1, 2}, Kids: []Kid{k, k}}, true)
	mustMay(t, Node{Height: 5, Keys: []int{500}, Kids: []Kid{k}}, true)
}

// validNode is a leaf or an inner node, with numbers up to the limits.
func validNode(r *rand.Rand) Node {
	n := Node{Height: r.Intn(6)}
	count := r.Intn(9)
	if n.Height > 0 {
		count = 1 + r.Intn(8)
	}
	n.Keys = r.Perm(512)[:count]
	slices.Sort(n.Keys)
	for range count {
		size := 1 + r.Intn(128)
		at := r.Intn(8192 - size + 1)
		gen := r.Intn(1 << (1 + r.Intn(28)))
		if n.Height > 0 {
			n.Kids = append(n.Kids, Kid{At: at, N: size, Gen: gen})
			continue
		}
		n.Places = append(n.Places, api.Place{At: at, N: size, Slot: r.Intn(8)})
		n.Gens = append(n.Gens, gen)
	}
	return n
}

// somewhere is numbers at limits, and others.
func somewhere(r *rand.Rand) int {
	l := []int{-1, 0, 1, 5, 6, 7, 8, 127, 128, 129, 511, 512, 8064, 8065, 8191, 8192, 8193, mostGen, mostGen + 1, r.Intn(600), r.Intn(9000), extremes[r.Intn(len(extremes))]}
	return l[r.Intn(len(l))]
}

// bend changes one thing about n.
func bend(r *rand.Rand, n *Node) {
	at := func(length int) int { return r.Intn(max(length, 1)) }
	switch x := somewhere(r); {
	case r.Intn(8) == 0:
		n.Height = x
	case r.Intn(6) == 0 && len(n.Keys) > 0:
		n.Keys[at(len(n.Keys))] = x
	case r.Intn(8) == 0:
		n.Keys = n.Keys[:at(len(n.Keys))]
	case r.Intn(8) == 0:
		n.Gens = append(n.Gens, x)
	case r.Intn(8) == 0:
		n.Kids = append(n.Kids, Kid{N: 1})
	case len(n.Places) > 0:
		fields := &n.Places[at(len(n.Places))]
		*[]*int{&fields.At, &fields.N, &fields.Slot, &n.Gens[at(len(n.Gens))]}[r.Intn(4)] = x
	case len(n.Kids) > 0:
		fields := &n.Kids[at(len(n.Kids))]
		*[]*int{&fields.At, &fields.N, &fields.Gen}[r.Intn(3)] = x
	}
}

func TestP13_1AgainstPlain(t *testing.T) {
	r := rand.New(rand.NewSource(1))
	var seen [2]int
	for range 100000 {
		n := validNode(r)
		mustMay(t, n, true)
		bend(r, &n)
		want := plainMay(n)
		mustMay(t, n, want)
		if want {
			seen[1]++
		} else {
			seen[0]++
		}
	}
	if min(seen[0], seen[1]) < 10000 {
		t.Errorf("%d nodes were not valid, %d were", seen[0], seen[1])
	}
}

// crammed is a node like n, each of whose lists has others behind its end.
func crammed(n Node) Node {
	return Node{
		Height: n.Height,
		Keys:   append(slices.Clone(n.Keys), 900, 901)[:len(n.Keys)],
		Places: append(slices.Clone(n.Places), api.Place{At: 902}, api.Place{At: 903})[:len(n.Places)],
		Gens:   append(slices.Clone(n.Gens), 904, 905)[:len(n.Gens)],
		Kids:   append(slices.Clone(n.Kids), Kid{At: 906}, Kid{At: 907})[:len(n.Kids)],
	}
}

// whole is n with its lists up to their capacities.
func whole(n Node) Node {
	return Node{Height: n.Height, Keys: n.Keys[:cap(n.Keys)], Places: n.Places[:cap(n.Places)], Gens: n.Gens[:cap(n.Gens)], Kids: n.Kids[:cap(n.Kids)]}
}

func TestP13_1LeavesItsArgument(t *testing.T) {
	r := rand.New(rand.NewSource(2))
	for range 2000 {
		n := validNode(r)
		if r.Intn(2) == 0 {
			bend(r, &n)
		}
		n = crammed(n)
		kept := copied(whole(n))
		May(n)
		Encode(n)
		Find(n, somewhere(r))
		if !reflect.DeepEqual(whole(n), kept) {
			t.Fatalf("%+v was changed to %+v", kept, whole(n))
		}
	}
}

func mustFind(t *testing.T, n Node, key, want int, wantIs bool) {
	t.Helper()
	if i, is := Find(n, key); i != want || is != wantIs {
		t.Errorf("Find(%v, %d) = %d, %v, want %d, %v", n.Keys, key, i, is, want, wantIs)
	}
}

func TestP13_2FindKnown(t *testing.T) {
	for _, n := range []Node{leafOf(3, 7, 9), innerOf(1, 3, 7, 9), innerOf(5, 3, 7, 9)} {
		mustFind(t, n, 3, 0, true)
		mustFind(t, n, 4, 0, false)
		mustFind(t, n, 6, 0, false)
		mustFind(t, n, 7, 1, true)
		mustFind(t, n, 8, 1, false)
		mustFind(t, n, 9, 2, true)
		for _, key := range []int{10, 511, 512, math.MaxInt} {
			mustFind(t, n, key, 2, false)
		}
		for _, key := range []int{2, 0, -1, math.MinInt} {
			mustFind(t, n, key, 0, false)
		}
	}
	mustFind(t, leafOf(0), 0, 0, true)
	mustFind(t, leafOf(0), -1, 0, false)
	mustFind(t, leafOf(511), 511, 0, true)
	for _, key := range append(extremes[:], 0, 1, 511) {
		mustFind(t, leafOf(), key, 0, false)
		mustFind(t, Node{Height: 1, Keys: []int{}}, key, 0, false)
	}
}

// plainFind is Find as the chapter tells it.
func plainFind(n Node, key int) (int, bool) {
	at, is := 0, false
	for i, k := range n.Keys {
		if k <= key {
			at, is = i, k == key
		}
	}
	return at, is
}

// In full nodes, each key, and each beside it.
func TestP13_2FindEach(t *testing.T) {
	for count := range 9 {
		n := leafOf(counted(count, 3)...)
		for key := -2; key < 30; key++ {
			want, is := plainFind(n, key)
			mustFind(t, n, key, want, is)
		}
	}
}

// Find does not ask for a valid node: the keys may be in any order, and as many
// as there are.
func TestP13_2FindAnyKeys(t *testing.T) {
	mustFind(t, Node{Keys: []int{9, 3, 7}}, 8, 2, false)
	mustFind(t, Node{Keys: []int{9, 3, 7}}, 9, 2, false)
	mustFind(t, Node{Keys: []int{3, 9, 7}}, 3, 0, true)
	mustFind(t, Node{Keys: []int{3, 9, 8}}, 7, 0, false)
	mustFind(t, Node{Keys: []int{7, 7, 7}}, 7, 2, true)
	mustFind(t, Node{Keys: []int{7, 7, 9}}, 8, 1, false)
	mustFind(t, Node{Keys: []int{2, 1}}, 2, 1, false)
	mustFind(t, Node{Keys: []int{-5, -3}}, -4, 0, false)
	mustFind(t, Node{Keys: []int{-5, -3}}, -3, 1, true)
	mustFind(t, Node{Keys: []int{math.MinInt, math.MaxInt}}, math.MinInt, 0, true)
	mustFind(t, Node{Keys: []int{math.MinInt, math.MaxInt}}, math.MaxInt, 1, true)
	mustFind(t, Node{Height: -4, Keys: counted(1000, 2)}, 777, 388, false)
	r := rand.New(rand.NewSource(3))
	for range 50000 {
		n := Node{Height: r.Intn(3), Keys: make([]int, r.Intn(20))}
		for i := range n.Keys {
			n.Keys[i] = r.Intn(16)
		}
		key := r.Intn(18) - 1
		want, is := plainFind(n, key)
		mustFind(t, n, key, want, is)
	}
}
