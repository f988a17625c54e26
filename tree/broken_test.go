package tree

import (
	"math"
	"math/rand"
	"slices"
	"testing"

	"concertina/api"
	"concertina/node"
)

// answer is what a call has returned, whichever it is.
type answer struct {
	root  Root
	entry Entry
	is    bool
	all   []Entry
	nodes []node.Kid
	e     api.Errno
}

// isOnly tells whether a call has returned an error and zero values.
func (a answer) isOnly(e api.Errno) bool {
	return a.e == e && a.root == Root{} && a.entry == Entry{} && !a.is && len(a.all) == 0 && len(a.nodes) == 0
}

func (a answer) equals(b answer) bool {
	return a.e == b.e && a.root == b.root && a.entry == b.entry && a.is == b.is &&
		slices.Equal(a.all, b.all) && slices.Equal(a.nodes, b.nodes)
}

// calls is calls of each function on one tree.
func calls() map[string]func(s Store, r Root) answer {
	get := func(key int) func(Store, Root) answer {
		return func(s Store, r Root) (a answer) {
			a.entry, a.is, a.e = Get(s, r, key)
			return a
		}
	}
	put := func(keys ...int) func(Store, Root) answer {
		return func(s Store, r Root) (a answer) {
			a.root, a.e = Put(s, r, entriesFor(50, keys...))
			return a
		}
	}
	cut := func(keys ...int) func(Store, Root) answer {
		return func(s Store, r Root) (a answer) {
			a.root, a.e = Cut(s, r, keys)
			return a
		}
	}
	return map[string]func(Store, Root) answer{
		"Get(0)": get(0), "Get(51)": get(51), "Get(52)": get(52), "Get(511)": get(511),
		"Put one": put(100), "Put some": put(1, 2, 4, 5, 7, 8, 10, 11, 13, 200, 400), "Put all": put(counted(0, 1, 512)...),
		"Cut one": cut(99), "Cut some": cut(0, 3, 6, 9, 12, 15, 201, 399, 501), "Cut many": cut(counted(3, 3, 160)...),
		"Cut all": cut(counted(0, 3, 171)...), "Cut none": cut(1, 100, 200, 511),
		// Of an inner node only one key is left: it is merged, and then the leaf is.
		"Cut all but one": cut(counted(0, 3, 15)...),
		"All": func(s Store, r Root) (a answer) {
			a.all, a.e = All(s, r)
			return a
		},
		"Nodes": func(s Store, r Root) (a answer) {
			a.nodes, a.e = Nodes(s, r)
			return a
		},
	}
}

// treeOfThrees is a tree with every third key.
func treeOfThrees(t *testing.T, s *shelf) (Root, model) {
	t.Helper()
	r, m := treeOf(t, s, counted(0, 3, 171)...)
	if r.Height < 2 {
		t.Fatalf("the height is only %d", r.Height)
	}
	s.reset()
	return r, m
}

func errnos() []api.Errno {
	return []api.Errno{
		api.ErrArg, api.ErrShort, api.ErrLong, api.ErrForm, api.ErrSum, api.ErrIO, api.ErrFull, api.ErrNone, api.ErrState, api.ErrLost,
		11, -1, math.MaxInt, math.MinInt,
	}
}

// Each load of a call fails once.
func TestP14_3ErrorsOfLoad(t *testing.T) {
	s := &shelf{}
	r, m := treeOfThrees(t, s)
	for name, call := range calls() {
		mustReturnErrors(t, s, r, name, call)
		mustHave(t, s, r, m.list())
	}
	s.mustBeIntact(t)
}

// Where room is made in a tree that is too high, other nodes are loaded as well.
func TestP14_3ErrorsOfLoadInCrowdedTrees(t *testing.T) {
	c := &crowd{shelf: &shelf{}, Rand: rand.New(rand.NewSource(2)), density: 0.5, model: model{}}
	r := Root{Kid: c.save(api.MaxHeight-1, 0, api.MaxSectors, 2), Height: api.MaxHeight - 1}
	mustReturnErrors(t, c.shelf, r, "Put", func(s Store, r Root) (a answer) {
		a.root, a.e = Put(s, r, entriesFor(3, c.free...))
		if a.e == api.OK && c.loads < 20 {
			t.Errorf("Put has loaded only %d nodes", c.loads)
		}
		return a
	})
	mustHave(t, c, r, c.list())
	c.mustBeIntact(t)
}

// mustReturnErrors makes each load of a call fail with each error.
func mustReturnErrors(t *testing.T, s *shelf, r Root, name string, call func(Store, Root) answer) {
	t.Helper()
	saved := len(s.nodes)
	loads := 1
	for i := 1; i <= loads; i++ {
		s.reset()
		want := call(s, r)
		if want.e != api.OK || s.loads == 0 {
			t.Fatalf("%s: %v after %d loads", name, want.e, s.loads)
		}
		loads = s.loads
		s.nodes, s.copies = s.nodes[:saved], s.copies[:saved]
		for _, e := range errnos() {
			s.reset()
			s.badLoad, s.err = i, e
			if a := call(s, r); !a.isOnly(e) || s.after != 0 || s.saves != 0 {
				t.Errorf("%s: %+v, and %d calls more, when load %d fails with %v after %d saves", name, a, s.after, i, e, s.saves)
			}
		}
		s.reset()
		if a := call(s, r); !a.equals(want) {
			t.Errorf("%s: %+v after an error, want %+v", name, a, want)
		}
		s.nodes, s.copies = s.nodes[:saved], s.copies[:saved]
	}
	s.reset()
}

// Each save of a call fails once.
func TestP14_3ErrorsOfSave(t *testing.T) {
	s := &shelf{}
	r, m := treeOfThrees(t, s)
	list := calls()
	list["Empty"] = func(s Store, _ Root) (a answer) {
		a.root, a.e = Empty(s)
		return a
	}
	for name, call := range list {
		s.reset()
		call(s, r)
		for i := 1; i <= s.saves; i++ {
			saves := s.saves
			for _, e := range errnos() {
				s.reset()
				s.badSave, s.err = i, e
				if a := call(s, r); !a.isOnly(e) || s.after != 0 {
					t.Errorf("%s: %+v, and %d calls more, when save %d fails with %v", name, a, s.after, i, e)
				}
			}
			s.reset()
			s.saves = saves
		}
		s.reset()
		mustHave(t, s, r, m.list())
	}
	s.mustBeIntact(t)
}

// bad is nodes to be met instead of n, which has the keys from first to end - 1.
func bad(n node.Node, first, end int) map[string]node.Node {
	change := func(f func(n *node.Node)) node.Node {
		c := copyOf(n)
		f(&c)
		return c
	}
	last := len(n.Keys) - 1
	l := map[string]node.Node{
		"nothing but a wrong height": {Height: 6},
		"too high":                   change(func(n *node.Node) { n.Height++ }),
		"too low":                    change(func(n *node.Node) { n.Height-- }),
		"a key too many":             change(func(n *node.Node) { n.Keys = append(n.Keys, end-1) }),
		"no key":                     change(func(n *node.Node) { n.Keys = nil }),
		"keys in disorder":           change(func(n *node.Node) { slices.Reverse(n.Keys) }),
		"a key twice":                change(func(n *node.Node) { n.Keys[1] = n.Keys[0] }),
		"a key below 0":              change(func(n *node.Node) { n.Keys[0] = -1 }),
		"a key above all":            change(func(n *node.Node) { n.Keys[last] = 512 }),
		"of another kind":            {Height: 1 - min(n.Height, 1), Keys: []int{first}, Kids: []node.Kid{{N: 1}}},
		"an inner node":              {Height: n.Height + 1, Keys: []int{first}, Kids: []node.Kid{{N: 1}}},
		"a leaf for an inner node":   {Height: n.Height, Keys: []int{first}, Places: []api.Place{{N: 1}}, Gens: []int{1}},
		"an inner node for a leaf":   {Height: n.Height, Keys: []int{first, first + 1}, Kids: make([]node.Kid, 2)},
	}
	if n.Height == 0 {
		l["a leaf with kids"] = change(func(n *node.Node) { n.Kids = make([]node.Kid, len(n.Keys)) })
		l["a wrong place"] = change(func(n *node.Node) { n.Places[last].N = 0 })
		l["a wrong generation"] = change(func(n *node.Node) { n.Gens[last] = -1 })
		delete(l, "of another kind")
		delete(l, "a leaf for an inner node")
	} else {
		l["a wrong kid"] = change(func(n *node.Node) { n.Kids[last].At = -1 })
		delete(l, "an inner node for a leaf")
	}
	if first > 0 {
		l["a key before the first"] = change(func(n *node.Node) { n.Keys[0] = first - 1 })
	}
	if end < api.MaxSectors {
		l["a key at the end"] = change(func(n *node.Node) { n.Keys[last] = end })
		l["the last key"] = change(func(n *node.Node) { n.Keys[last] = 511 })
	}
	return l
}

// Each node of a tree is replaced by bad ones. A call that loads it returns
// ErrForm, another one does not ask for it.
func TestP14_3BadNodes(t *testing.T) {
	s := &shelf{}
	r, _ := treeOfThrees(t, s)
	met := map[string]int{}
	var look func(b branch)
	look = func(b branch) {
		n := s.nodes[numberOf(b.kid)]
		for what, other := range bad(n, b.first, b.end) {
			for name, call := range calls() {
				saved := len(s.nodes)
				s.reset()
				want := call(s, r)
				s.nodes, s.copies = s.nodes[:saved], s.copies[:saved]
				s.reset()
				s.instead = map[int]node.Node{numberOf(b.kid): other}
				a := call(s, r)
				if a.isOnly(api.ErrForm) && s.saves == 0 {
					met[name]++
				} else if !a.equals(want) || name == "All" || name == "Nodes" {
					t.Errorf("%s: %+v where a node of height %d is %s: %+v", name, a, b.height, what, other)
				}
				s.nodes, s.copies = s.nodes[:saved], s.copies[:saved]
			}
		}
		for i := range n.Kids {
			look(branchOf(b, n, i))
		}
	}
	look(trunk(r))
	for name := range calls() {
		if met[name] < 3*10 {
			t.Errorf("%s has met only %d bad nodes", name, met[name])
		}
	}
}

// A node whose keys are just within their bounds is a good one.
func TestP14_3Bounds(t *testing.T) {
	leaf := func(s *shelf, keys ...int) node.Kid {
		n := node.Node{Keys: keys}
		for _, key := range keys {
			n.Places, n.Gens = append(n.Places, entry(key, 1).P), append(n.Gens, 1)
		}
		k, _ := s.Save(n)
		return k
	}
	tree := func(s *shelf, keys [3][]int) Root {
		low, _ := s.Save(node.Node{Height: 1, Keys: []int{10, 20}, Kids: []node.Kid{leaf(s, keys[0]...), leaf(s, keys[1]...)}})
		high, _ := s.Save(node.Node{Height: 1, Keys: []int{40}, Kids: []node.Kid{leaf(s, keys[2]...)}})
		top, _ := s.Save(node.Node{Height: 2, Keys: []int{10, 30}, Kids: []node.Kid{low, high}})
		return Root{Kid: top, Height: 2}
	}
	for _, c := range []struct {
		keys [3][]int
		want api.Errno
	}{
		{[3][]int{{10, 19}, {20, 29}, {40, 511}}, api.OK},
		{[3][]int{{19}, {29}, {}}, api.OK},
		{[3][]int{{9, 19}, {20, 29}, {40, 511}}, api.ErrForm},
		{[3][]int{{10, 20}, {21, 29}, {40, 511}}, api.ErrForm},
		{[3][]int{{10, 19}, {19, 29}, {40, 511}}, api.ErrForm},
		// The bound is that of the node above: the next key there is 30.
		{[3][]int{{10, 19}, {20, 30}, {40, 511}}, api.ErrForm},
		{[3][]int{{10, 19}, {20, 29}, {39, 511}}, api.ErrForm},
	} {
		s := &shelf{}
		r := tree(s, c.keys)
		if l, e := All(s, r); e != c.want || e == api.OK && len(l) != len(slices.Concat(c.keys[:]...)) {
			t.Errorf("%v: All = %v, %v, want %v", c.keys, l, e, c.want)
		}
		if _, e := Nodes(s, r); e != c.want {
			t.Errorf("%v: Nodes: %v, want %v", c.keys, e, c.want)
		}
		if _, e := Put(s, r, entriesFor(2, counted(0, 1, 512)...)); e != c.want {
			t.Errorf("%v: Put: %v, want %v", c.keys, e, c.want)
		}
		if _, e := Cut(s, r, counted(0, 1, 512)); e != c.want {
			t.Errorf("%v: Cut: %v, want %v", c.keys, e, c.want)
		}
	}
}

// Before the first key of an inner node there is nothing, and Put may put it
// there.
func TestP14_3BeforeTheFirstKey(t *testing.T) {
	s := &shelf{}
	r, m := treeOf(t, s, counted(100, 2, 100)...)
	if r.Height == 0 {
		t.Fatal("it is only a leaf")
	}
	mustGetAll(t, s, r, m)
	for _, key := range []int{0, 50, 99} {
		q := mustPut(t, s, r, entriesFor(2, key))
		mustHave(t, s, q, append(entriesFor(2, key), m.list()...))
		mustBeShaped(t, s, q)
		mustHave(t, s, mustCut(t, s, q, []int{key}), m.list())
	}
	mustHave(t, s, mustCut(t, s, r, counted(0, 1, 100)), m.list())
	// It can be asked for where the first child is lost.
	first := s.nodes[numberOf(r.Kid)].Kids[0]
	s.instead = map[int]node.Node{numberOf(first): {Height: 9}}
	for _, key := range []int{0, 99} {
		if x, is, e := Get(s, r, key); x != (Entry{}) || is || e != api.OK {
			t.Errorf("Get(%d) = %+v, %v, %v", key, x, is, e)
		}
	}
	if x, is, e := Get(s, r, 100); x != (Entry{}) || is || e != api.ErrForm {
		t.Errorf("Get(100) = %+v, %v, %v, want ErrForm", x, is, e)
	}
}

func TestP14_3WrongRoots(t *testing.T) {
	s := &shelf{}
	r, m := treeOfThrees(t, s)
	for name, call := range calls() {
		for _, height := range []int{r.Height - 1, r.Height + 1, 0, 5, 6, 7, -1, math.MaxInt, math.MinInt, math.MinInt + 1} {
			if a := call(s, Root{Kid: r.Kid, Height: height}); !a.isOnly(api.ErrForm) || s.saves != 0 {
				t.Errorf("%s: %+v for a root of height %d", name, a, height)
			}
		}
		for _, k := range []node.Kid{{}, {At: -1, N: 1}, {At: math.MaxInt, N: math.MaxInt, Gen: math.MaxInt}, lost().Kid} {
			// The store's own error comes first, whatever the height.
			for _, height := range []int{r.Height, -1, 6} {
				if a := call(s, Root{Kid: k, Height: height}); !a.isOnly(api.ErrIO) || s.saves != 0 {
					t.Errorf("%s: %+v for the root %+v", name, a, k)
				}
			}
		}
	}
	mustHave(t, s, r, m.list())
}

// dreams is a store that makes up what it loads.
type dreams struct {
	load  func() (node.Node, api.Errno)
	loads int
}

func (d *dreams) Load(node.Kid) (node.Node, api.Errno) {
	d.loads++
	return d.load()
}

func (d *dreams) Save(n node.Node) (node.Kid, api.Errno) {
	if !node.May(n) {
		panic("an invalid node is saved")
	}
	return node.Kid{At: 1, N: 1}, api.OK
}

// Every call ends, whatever Load returns: also the same node for ever.
func TestP14_3SameNodeForEver(t *testing.T) {
	for height := range 7 {
		for count := range 10 {
			n := node.Node{Height: height, Keys: counted(0, 1, count)}
			if height == 0 {
				n.Places, n.Gens = slices.Repeat([]api.Place{{N: 1}}, count), make([]int, count)
			} else {
				n.Kids = slices.Repeat([]node.Kid{{N: 1}}, count)
			}
			d := &dreams{load: func() (node.Node, api.Errno) { return n, api.OK }}
			for name, call := range calls() {
				for h := -1; h <= 7; h++ {
					d.loads = 0
					a := call(d, Root{Height: h})
					fine := h == height && height == 0 && count <= 8
					if fine != (a.e == api.OK) || !fine && !a.isOnly(api.ErrForm) || d.loads > 2 {
						t.Errorf("%s: %+v after %d loads, for the height %d and a node of height %d with %d keys", name, a, d.loads, h, height, count)
					}
				}
			}
		}
	}
}

// A store whose nodes are of the right height each, at random.
func TestP14_3RandomNodes(t *testing.T) {
	r := rand.New(rand.NewSource(5))
	ends := map[api.Errno]int{}
	for range 3000 {
		height, keys := r.Intn(api.MaxHeight), r.Intn(9)
		d := &dreams{}
		d.load = func() (node.Node, api.Errno) {
			if r.Intn(200) == 0 {
				return node.Node{}, errnos()[r.Intn(10)]
			}
			n := node.Node{Height: height - min(d.loads-1, r.Intn(2)+height)}
			for range r.Intn(keys + 1) {
				n.Keys = append(n.Keys, r.Intn(512))
			}
			slices.Sort(n.Keys)
			n.Keys = slices.Compact(n.Keys)
			if n.Height == 0 {
				n.Places, n.Gens = slices.Repeat([]api.Place{{N: 1}}, len(n.Keys)), make([]int, len(n.Keys))
			} else {
				n.Kids = slices.Repeat([]node.Kid{{N: 1}}, len(n.Keys))
			}
			return n, api.OK
		}
		for name, call := range calls() {
			d.loads = 0
			a := call(d, Root{Height: height})
			if a.e != api.OK && !a.isOnly(a.e) || d.loads > 6*512 {
				t.Errorf("%s: %+v after %d loads", name, a, d.loads)
			}
			ends[a.e]++
		}
	}
	if ends[api.OK] < 100 || ends[api.ErrForm] < 100 || ends[api.ErrIO] < 10 {
		t.Errorf("the calls ended with %v", ends)
	}
}

// A store that has an empty leaf wherever it is asked for one. All is to end
// after each sector has been a key in each level.
func TestP14_3WidestTree(t *testing.T) {
	s := &wide{}
	l, e := Nodes(s, Root{Kid: node.Kid{At: 0, N: 1, Gen: 512}, Height: 5})
	if e != api.OK || len(l) > 1+5*512 || len(l) < 512 {
		t.Errorf("%d nodes, %v", len(l), e)
	}
	if l, e := All(s, Root{Kid: node.Kid{At: 0, N: 1, Gen: 512}, Height: 5}); e != api.OK || len(l) != 0 {
		t.Errorf("All = %v, %v", l, e)
	}
	if x, is, e := Get(s, Root{Kid: node.Kid{At: 0, N: 1, Gen: 512}, Height: 5}, 300); is || e != api.OK {
		t.Errorf("Get = %v, %v, %v", x, is, e)
	}
	r, e := Put(s, Root{Kid: node.Kid{At: 0, N: 1, Gen: 512}, Height: 5}, entriesFor(1, counted(0, 1, 512)...))
	if e != api.OK || s.invalid > 0 {
		t.Errorf("Put = %+v, %v, and %d invalid nodes saved", r, e, s.invalid)
	}
}

// wide is a store whose kids say which keys they have: Gen of them from At on;
// N is 6 less the height.
type wide struct {
	shelf
}

func (w *wide) Load(k node.Kid) (node.Node, api.Errno) {
	n := node.Node{Height: 6 - k.N}
	for i := range 8 {
		first, end := k.At+i*k.Gen/8, k.At+(i+1)*k.Gen/8
		if n.Height > 0 && first < end {
			n.Keys = append(n.Keys, first)
			n.Kids = append(n.Kids, node.Kid{At: first, N: k.N + 1, Gen: end - first})
		}
	}
	return n, api.OK
}

// What a store names its nodes by is its own business, but no invalid node is
// saved because of it.
func TestP14_3SaveReturnsInvalidKids(t *testing.T) {
	for _, k := range []node.Kid{{}, {At: -1, N: 1}, {At: 8192, N: 1}, {N: 129}, {At: 8191, N: 2}, {N: 1, Gen: -1}, {N: 1, Gen: 1 << 28}} {
		s := &shelf{}
		r, m := treeOfThrees(t, s)
		s.kid = func(int) node.Kid { return k }
		for name, call := range calls() {
			if a := call(s, r); a.e != api.OK && !a.isOnly(api.ErrForm) || a.e == api.OK && name[:3] == "Put" {
				t.Errorf("%s: %+v where Save returns %+v", name, a, k)
			}
		}
		mustHave(t, s, r, m.list())
		s.mustBeIntact(t)
	}
}
