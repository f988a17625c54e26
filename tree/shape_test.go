package tree

import (
	"maps"
	"math/rand"
	"slices"
	"testing"

	"concertina/api"
	"concertina/node"
)

// mustBeValid asks for all of what a tree's nodes have to do with each other,
// and returns how many parts each node other than the root has.
func mustBeValid(t *testing.T, s *shelf, r Root) []int {
	t.Helper()
	if r.Height < 0 || r.Height >= api.MaxHeight {
		t.Fatalf("the height is %d", r.Height)
	}
	var sizes []int
	seen := map[int]int{}
	var look func(k node.Kid, height, first, end int)
	look = func(k node.Kid, height, first, end int) {
		n := s.nodes[numberOf(k)]
		if !node.May(n) || n.Height != height {
			t.Fatalf("%+v is invalid, or not of height %d", n, height)
		}
		sizes = append(sizes, len(n.Keys))
		for i, key := range n.Keys {
			if key < first || key >= end {
				t.Fatalf("key %d is not from %d to %d", key, first, end-1)
			}
			if height == 0 {
				seen[key]++
				continue
			}
			below := end
			if i+1 < len(n.Keys) {
				below = n.Keys[i+1]
			}
			look(n.Kids[i], height-1, key, below)
		}
	}
	look(r.Kid, r.Height, 0, api.MaxSectors)
	for key, count := range seen {
		if count > 1 {
			t.Fatalf("key %d occurs %d times", key, count)
		}
	}
	return sizes[1:]
}

// mustBeShaped asks also for what keeps a tree low: that all nodes but the root
// have half of the keys that they can have, and the root two if it is no leaf.
func mustBeShaped(t *testing.T, s *shelf, r Root) {
	t.Helper()
	for _, size := range mustBeValid(t, s, r) {
		if size < api.Fan/2 {
			t.Fatalf("a node has %d keys", size)
		}
	}
	if n := s.nodes[numberOf(r.Kid)]; n.Height > 0 && len(n.Keys) < 2 {
		t.Fatalf("an inner root has %d keys", len(n.Keys))
	}
}

// In lists of any length at once.
func TestP14_2Lists(t *testing.T) {
	for count := range 513 {
		s := &shelf{}
		l := entriesFor(1, counted(0, 1, count)...)
		rand.New(rand.NewSource(1)).Shuffle(len(l), func(i, j int) { l[i], l[j] = l[j], l[i] })
		r := mustPut(t, s, mustEmpty(t, s), l)
		mustHave(t, s, r, entriesFor(1, counted(0, 1, count)...))
		mustBeShaped(t, s, r)
		var keys []int
		for _, x := range l {
			keys = append(keys, x.Key)
		}
		for _, left := range []int{0, 1, 2, 3, 8, 9, count / 2} {
			if left > count {
				continue
			}
			q := mustCut(t, s, r, keys[left:])
			mustBeShaped(t, s, q)
			if l, e := All(s, q); e != api.OK || len(l) != left {
				t.Fatalf("%d of %d keys left: All = %v, %v", left, count, l, e)
			}
		}
		s.mustBeIntact(t)
	}
}

// Where only a few keys are left below each node, here and there, nodes of all
// heights have to be merged at once, with neighbours that they get only then.
func TestP14_2FewLeft(t *testing.T) {
	s := &shelf{}
	r, m := mustEmpty(t, s), model{}
	put := func(l []Entry) {
		r = mustPut(t, s, r, l)
		m.put(l)
		mustBeShaped(t, s, r)
		mustHave(t, s, r, m.list())
	}
	for _, step := range []int{2, 3, 4, 5, 7, 8, 9, 15, 16, 17, 31, 32, 33, 64, 100, 128, 200, 256, 400} {
		for shift := range min(step, 20) {
			put(entriesFor(step, counted(0, 1, 512)...))
			var keys []int
			for key := range 512 {
				if (key+shift)%step != 0 {
					keys = append(keys, key)
				}
			}
			r = mustCut(t, s, r, keys)
			m.cut(keys)
			mustBeShaped(t, s, r)
			mustHave(t, s, r, m.list())
			// A few here and there, next to those that are left.
			put(entriesFor(step+1, counted(shift, step, 512/step-1)...))
		}
	}
	s.mustBeIntact(t)
}

// The tree that is made of one key less, and one more, again and again.
func TestP14_2BackAndForth(t *testing.T) {
	for count := 1; count < 140; count++ {
		s := &shelf{}
		r, m := treeOf(t, s, counted(0, 3, count)...)
		for i := range count {
			key := i * 3
			q := mustCut(t, s, r, []int{key})
			mustBeShaped(t, s, q)
			mustHave(t, s, q, slices.Concat(m.list()[:i], m.list()[i+1:]))
			q = mustPut(t, s, q, []Entry{m[key]})
			mustBeShaped(t, s, q)
			mustHave(t, s, q, m.list())
			q = mustPut(t, s, r, entriesFor(5, key+1))
			mustBeShaped(t, s, q)
			mustHave(t, s, q, slices.Concat(m.list()[:i+1], entriesFor(5, key+1), m.list()[i+1:]))
		}
		s.mustBeIntact(t)
	}
}

// sparse saves a valid tree of that height, with the keys from first to end - 1,
// whose nodes have few keys, or none.
func sparse(s *shelf, r *rand.Rand, height, first, end int, m model) node.Kid {
	n := node.Node{Height: height}
	for range r.Intn(4) + min(height, 1) {
		if key := first + r.Intn(end-first); !slices.Contains(n.Keys, key) {
			n.Keys = append(n.Keys, key)
		}
	}
	slices.Sort(n.Keys)
	for i, key := range n.Keys {
		if height == 0 {
			x := entry(key, 2)
			m[key] = x
			n.Places, n.Gens = append(n.Places, x.P), append(n.Gens, x.Gen)
			continue
		}
		below := end
		if i+1 < len(n.Keys) {
			below = n.Keys[i+1]
		}
		n.Kids = append(n.Kids, sparse(s, r, height-1, key, below, m))
	}
	k, _ := s.Save(n)
	return k
}

// Any valid tree can be changed, not only those that Put and Cut have made.
func TestP14_2SparseTrees(t *testing.T) {
	r := rand.New(rand.NewSource(3))
	for range 2000 {
		s, m := &shelf{}, model{}
		height := r.Intn(api.MaxHeight)
		root := Root{Kid: sparse(s, r, height, 0, api.MaxSectors, m), Height: height}
		mustHave(t, s, root, m.list())
		mustGetAll(t, s, root, m)
		most := 1 + r.Intn(60)
		for round := range 10 {
			keys := someKeys(r, most, 0, api.MaxSectors)
			if r.Intn(2) == 0 {
				l := entriesFor(3+round, keys...)
				root = mustPut(t, s, root, l)
				m.put(l)
			} else {
				for range r.Intn(len(m) + 1) {
					keys = append(keys, m.list()[r.Intn(len(m))].Key)
				}
				root = mustCut(t, s, root, keys)
				m.cut(keys)
			}
			mustHave(t, s, root, m.list())
			mustBeValid(t, s, root)
		}
		mustGetAll(t, s, root, m)
		mustHave(t, s, mustCut(t, s, root, counted(0, 1, 512)), nil)
		s.mustBeIntact(t)
	}
}

// A leaf below others may be empty.
func TestP14_2EmptyLeaves(t *testing.T) {
	s := &shelf{}
	empty, _ := s.Save(node.Node{})
	inner, _ := s.Save(node.Node{Height: 1, Keys: []int{0, 10, 20}, Kids: []node.Kid{empty, empty, empty}})
	r := Root{Kid: inner, Height: 1}
	mustHave(t, s, r, nil)
	if l, e := Nodes(s, r); e != api.OK || !slices.Equal(l, []node.Kid{inner, empty, empty, empty}) {
		t.Errorf("Nodes = %v, %v", l, e)
	}
	mustHave(t, s, mustCut(t, s, r, []int{1, 10, 30}), nil)
	for key := range 40 {
		q := mustPut(t, s, r, entriesFor(1, key))
		mustHave(t, s, q, entriesFor(1, key))
		mustBeValid(t, s, q)
		mustHave(t, s, mustCut(t, s, q, []int{key}), nil)
	}
	s.mustBeIntact(t)
}

// crowd makes a tree that has full nodes on the ways to some leaves.
type crowd struct {
	*shelf
	*rand.Rand
	density float64 // of the keys elsewhere
	model
	free []int // a key for each of the full leaves, which has room only beside it
}

func (c *crowd) add(n *node.Node, key int) {
	x := entry(key, 2)
	c.model[key] = x
	n.Keys, n.Places, n.Gens = append(n.Keys, key), append(n.Places, x.P), append(n.Gens, x.Gen)
}

// save saves a subtree with the keys from first to end - 1 and so many full
// ways, each of which begins in another child.
func (c *crowd) save(height, first, end, ways int) node.Kid {
	if ways == 0 {
		var keys []int
		for key := first; key < end; key++ {
			if c.Float64() < c.density {
				keys = append(keys, key)
			}
		}
		return c.pack(height, first, keys)
	}
	n := node.Node{Height: height}
	if height == 0 {
		skip := first + 1 + c.Intn(8)
		c.free = append(c.free, skip)
		for key := first; key < first+9; key++ {
			if key != skip {
				c.add(&n, key)
			}
		}
	} else {
		c.fill(&n, first, end, ways)
	}
	k, _ := c.Save(n)
	return k
}

// fill gives an inner node all the kids that it can have.
func (c *crowd) fill(n *node.Node, first, end, ways int) {
	full := make([]int, api.Fan)
	for i := range ways {
		full[i] = 1
	}
	c.Shuffle(len(full), func(i, j int) { full[i], full[j] = full[j], full[i] })
	// A full way takes 9 sectors in the leaf, and 7 beside it in each node above.
	least := 9 + 7*(n.Height-1)
	spare := end - first - ways*least - (api.Fan - ways)
	for i, is := range full {
		room := 1 + is*(least-1)
		if more := c.Intn(spare + 1); i == api.Fan-1 || c.Intn(3) == 0 {
			if i == api.Fan-1 {
				more = spare
			}
			room, spare = room+more, spare-more
		}
		n.Keys = append(n.Keys, first)
		n.Kids = append(n.Kids, c.save(n.Height-1, first, first+room, is))
		first += room
	}
}

// pack saves a subtree with few nodes that has these keys, or as many of them as
// it can have.
func (c *crowd) pack(height, first int, keys []int) node.Kid {
	n := node.Node{Height: height}
	if height == 0 {
		for _, key := range keys[:min(len(keys), api.Fan)] {
			c.add(&n, key)
		}
	} else if len(keys) == 0 {
		n.Keys, n.Kids = []int{first}, []node.Kid{c.pack(height-1, first, nil)}
	} else {
		for l := range slices.Chunk(keys, 1<<(3*height)) {
			if len(n.Keys) < api.Fan {
				n.Keys, n.Kids = append(n.Keys, l[0]), append(n.Kids, c.pack(height-1, l[0], l))
			}
		}
	}
	k, _ := c.Save(n)
	return k
}

// Where a tree is full on the way to a leaf, but not elsewhere, it gets higher,
// and if it has the greatest height room is made elsewhere.
func TestP14_2CrowdedTrees(t *testing.T) {
	r := rand.New(rand.NewSource(8))
	for i := range 400 {
		ways := 1 + i%8
		c := &crowd{shelf: &shelf{}, Rand: r, density: []float64{0, 0.1, 0.5, 0.9, 1}[r.Intn(5)], model: model{}}
		height := []int{1, 2, 3, 4, 5, 5, 5, 5, 5}[i%9]
		root := Root{Kid: c.save(height, 0, api.MaxSectors, ways), Height: height}
		mustHave(t, c, root, c.list())
		mustBeValid(t, c.shelf, root)
		for n := range ways {
			c.reset()
			l := entriesFor(3, c.free[:n+1]...)
			q := mustPut(t, c.shelf, root, l)
			m := maps.Clone(c.model)
			m.put(l)
			mustHave(t, c, q, m.list())
			mustBeValid(t, c.shelf, q)
		}
		l := entriesFor(4, counted(0, 1, 512)...)
		q := mustPut(t, c.shelf, root, l)
		mustHave(t, c, q, l)
		mustBeValid(t, c.shelf, q)
		c.mustBeIntact(t)
	}
}
