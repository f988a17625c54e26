package tree

import (
	"math"
	"math/rand"
	"slices"
	"testing"

	"concertina/api"
	"concertina/node"
)

func TestP14_1Empty(t *testing.T) {
	s := &shelf{}
	r := mustEmpty(t, s)
	if r != (Root{Kid: kidOf(0)}) || s.saves != 1 || s.loads != 0 || !sameNode(s.nodes[0], node.Node{}) {
		t.Errorf("Empty: %+v, saved %+v", r, s.nodes)
	}
	mustHave(t, s, r, nil)
	mustGetAll(t, s, r, nil)
	if l, e := Nodes(s, r); e != api.OK || !slices.Equal(l, []node.Kid{r.Kid}) {
		t.Errorf("Nodes = %v, %v, want the root's kid", l, e)
	}
	// Each call saves a leaf.
	if q := mustEmpty(t, s); q != (Root{Kid: kidOf(1)}) || s.saves != 2 {
		t.Errorf("Empty again: %+v, %d saves", q, s.saves)
	}
}

// The chapter's example.
func TestP14_1Example(t *testing.T) {
	s := &shelf{}
	r := mustEmpty(t, s)
	r = mustPut(t, s, r, entriesFor(3, 1, 2))
	mustHave(t, s, r, entriesFor(3, 1, 2))
	mustHave(t, s, mustCut(t, s, r, []int{1}), entriesFor(3, 2))
}

func TestP14_1LastOfOneKeyCounts(t *testing.T) {
	s := &shelf{}
	r := mustEmpty(t, s)
	l := []Entry{entry(5, 1), entry(3, 2), entry(5, 3), entry(4, 4), entry(5, 2), entry(3, 7), entry(3, 1)}
	r = mustPut(t, s, r, l)
	mustHave(t, s, r, []Entry{entry(3, 1), entry(4, 4), entry(5, 2)})
	// Also over what the tree has, in a list that is too long to be sorted by insertion.
	var many []Entry
	for x := range 100 {
		for key := range 10 {
			many = append(many, entry(key, x))
		}
	}
	r = mustPut(t, s, r, many)
	mustHave(t, s, r, entriesFor(99, counted(0, 1, 10)...))
}

func TestP14_1CutIgnoresMissingKeys(t *testing.T) {
	s := &shelf{}
	r, m := treeOf(t, s, counted(10, 3, 60)...)
	missing := []int{0, 9, 11, 12, 14, 188, 189, 511}
	mustHave(t, s, mustCut(t, s, r, missing), m.list())
	mustHave(t, s, mustCut(t, s, r, append(missing, 10, 10, 10, 187)), m.list()[1:59])
	mustHave(t, s, mustCut(t, s, mustEmpty(t, s), missing), nil)
}

// Nothing is saved where nothing changes.
func TestP14_1NothingChanges(t *testing.T) {
	s := &shelf{}
	for _, keys := range [][]int{nil, {7}, counted(0, 1, 8), counted(0, 2, 100)} {
		r, m := treeOf(t, s, keys...)
		s.reset()
		for _, q := range []Root{
			mustPut(t, s, r, nil), mustPut(t, s, r, []Entry{}), mustPut(t, s, r, m.list()),
			mustCut(t, s, r, nil), mustCut(t, s, r, []int{}), mustCut(t, s, r, []int{301, 511, 301}),
		} {
			if q != r || s.saves != 0 {
				t.Errorf("with %d keys: %+v after %d saves, want %+v", len(keys), q, s.saves, r)
			}
			mustHave(t, s, q, m.list())
		}
		// An older value, and then the one that the tree has.
		for _, x := range m.list() {
			q := mustPut(t, s, r, []Entry{entry(x.Key, 200), x})
			if q != r || s.saves != 0 {
				t.Errorf("with %d keys: %+v after %d saves, want %+v", len(keys), q, s.saves, r)
			}
		}
	}
}

// A child that is left alone becomes the root as it is.
func TestP14_1ChildBecomesRoot(t *testing.T) {
	s := &shelf{}
	r, _ := treeOf(t, s, counted(0, 1, 9)...)
	top := s.nodes[numberOf(r.Kid)]
	if r.Height != 1 || len(top.Kids) != 2 {
		t.Fatalf("the root is %+v", top)
	}
	s.reset()
	for i, keys := range [][]int{counted(top.Keys[1], 1, 9-top.Keys[1]), counted(0, 1, top.Keys[1])} {
		if q := mustCut(t, s, r, keys); q != (Root{Kid: top.Kids[i]}) || s.saves != 0 {
			t.Errorf("Cut(%v) = %+v after %d saves, want child %d", keys, q, s.saves, i)
		}
	}
}

// Each field of an entry matters.
func TestP14_1FieldsOfEntries(t *testing.T) {
	s := &shelf{}
	a := Entry{Key: 5, P: api.Place{At: 6, N: 7, Slot: 3}, Gen: 9}
	r := mustPut(t, s, mustEmpty(t, s), []Entry{a})
	for _, b := range []Entry{
		{Key: 5, P: api.Place{At: 1, N: 7, Slot: 3}, Gen: 9}, {Key: 5, P: api.Place{At: 6, N: 1, Slot: 3}, Gen: 9},
		{Key: 5, P: api.Place{At: 6, N: 7, Slot: 1}, Gen: 9}, {Key: 5, P: api.Place{At: 6, N: 7, Slot: 3}, Gen: 1},
	} {
		q := mustPut(t, s, r, []Entry{b})
		mustHave(t, s, q, []Entry{b})
		mustHave(t, s, r, []Entry{a})
		if x, is, e := Get(s, q, 5); x != b || !is || e != api.OK {
			t.Errorf("Get = %+v, %v, %v, want %+v", x, is, e, b)
		}
	}
}

// validEntries is entries at the limits.
func validEntries() []Entry {
	return []Entry{
		{P: api.Place{N: 1}},
		{Key: 511, P: api.Place{At: 8191, N: 1, Slot: 7}, Gen: 1<<28 - 1},
		{Key: 100, P: api.Place{At: 8064, N: 128}},
		{Key: 101, P: api.Place{At: 0, N: 128}},
	}
}

func invalidEntries() []Entry {
	return []Entry{
		{}, {P: api.Place{N: -1}}, {P: api.Place{N: 129}}, {P: api.Place{N: math.MaxInt}}, {P: api.Place{N: math.MinInt}},
		{Key: -1, P: api.Place{N: 1}}, {Key: 512, P: api.Place{N: 1}}, {Key: math.MinInt, P: api.Place{N: 1}}, {Key: math.MaxInt, P: api.Place{N: 1}},
		{P: api.Place{At: -1, N: 1}}, {P: api.Place{At: 8192, N: 1}}, {P: api.Place{At: 8191, N: 2}}, {P: api.Place{At: 8065, N: 128}},
		{P: api.Place{At: math.MaxInt, N: 1}}, {P: api.Place{At: math.MinInt, N: 1}},
		{P: api.Place{N: 1, Slot: -1}}, {P: api.Place{N: 1, Slot: 8}}, {P: api.Place{N: 1, Slot: math.MaxInt}},
		{P: api.Place{N: 1}, Gen: -1}, {P: api.Place{N: 1}, Gen: 1 << 28}, {P: api.Place{N: 1}, Gen: math.MaxInt},
	}
}

func TestP14_1ValidEntries(t *testing.T) {
	s := &shelf{}
	want := validEntries()
	slices.SortFunc(want, func(a, b Entry) int { return a.Key - b.Key })
	r := mustPut(t, s, mustEmpty(t, s), validEntries())
	mustHave(t, s, r, want)
	for _, x := range want {
		mustHave(t, s, mustPut(t, s, mustEmpty(t, s), []Entry{x}), []Entry{x})
		if y, is, e := Get(s, r, x.Key); y != x || !is || e != api.OK {
			t.Errorf("Get(%d) = %+v, %v, %v", x.Key, y, is, e)
		}
	}
	mustHave(t, s, mustCut(t, s, r, []int{0, 511}), want[1:3])
	s.mustBeIntact(t)
}

// lost is a root that cannot be loaded.
func lost() Root {
	return Root{Kid: node.Kid{At: 3999, N: 5, Gen: 77}}
}

func TestP14_1InvalidArguments(t *testing.T) {
	s := &shelf{}
	full, m := treeOf(t, s, counted(0, 5, 40)...)
	s.reset()
	for _, r := range []Root{full, lost(), {}, {Kid: full.Kid, Height: -1}, {Kid: full.Kid, Height: 6}} {
		for _, key := range []int{-1, -2, 512, 513, math.MinInt, math.MaxInt} {
			if x, is, e := Get(s, r, key); x != (Entry{}) || is || e != api.ErrArg {
				t.Errorf("Get(%d) = %+v, %v, %v, want ErrArg", key, x, is, e)
			}
			for _, l := range [][]int{{key}, {1, 2, key}, {key, 1, 2}, {5, key, 5}} {
				if q, e := Cut(s, r, l); q != (Root{}) || e != api.ErrArg {
					t.Errorf("Cut(%v) = %+v, %v, want ErrArg", l, q, e)
				}
			}
		}
		for _, x := range invalidEntries() {
			// Also where a later entry has the key.
			for _, l := range [][]Entry{{x}, {entry(1, 1), x}, {x, entry(1, 1)}, {x, entry(0, 1)}} {
				if q, e := Put(s, r, l); q != (Root{}) || e != api.ErrArg {
					t.Errorf("Put(%v) = %+v, %v, want ErrArg", l, q, e)
				}
			}
		}
	}
	if s.loads != 0 || s.saves != 0 {
		t.Errorf("%d loads and %d saves for invalid arguments", s.loads, s.saves)
	}
	mustHave(t, s, full, m.list())
}

func TestP14_1NoStore(t *testing.T) {
	r := Root{Kid: node.Kid{At: 2, N: 1}}
	if q, e := Empty(nil); q != (Root{}) || e != api.ErrArg {
		t.Errorf("Empty: %+v, %v", q, e)
	}
	if x, is, e := Get(nil, r, 1); x != (Entry{}) || is || e != api.ErrArg {
		t.Errorf("Get: %+v, %v, %v", x, is, e)
	}
	for _, l := range [][]Entry{nil, entriesFor(1, 1)} {
		if q, e := Put(nil, r, l); q != (Root{}) || e != api.ErrArg {
			t.Errorf("Put: %+v, %v", q, e)
		}
	}
	for _, l := range [][]int{nil, {1}} {
		if q, e := Cut(nil, r, l); q != (Root{}) || e != api.ErrArg {
			t.Errorf("Cut: %+v, %v", q, e)
		}
	}
	if l, e := All(nil, r); l != nil || e != api.ErrArg {
		t.Errorf("All: %v, %v", l, e)
	}
	if l, e := Nodes(nil, r); l != nil || e != api.ErrArg {
		t.Errorf("Nodes: %v, %v", l, e)
	}
}

// mustSaveNewOnly asks that all of what a call has saved is in the tree q, and
// that the other nodes of q are those of r.
func mustSaveNewOnly(t *testing.T, s *shelf, r, q Root, before int) {
	t.Helper()
	old, e := Nodes(s, r)
	now, f := Nodes(s, q)
	if e != api.OK || f != api.OK {
		t.Fatal(e, f)
	}
	fresh := 0
	for _, k := range now {
		if numberOf(k) >= before {
			fresh++
		} else if !slices.Contains(old, k) {
			t.Fatalf("%v is neither new nor of the old tree", k)
		}
	}
	if fresh != len(s.nodes)-before {
		t.Fatalf("%d nodes saved, but %d new ones in the tree", len(s.nodes)-before, fresh)
	}
}

// Trees are compared with a plain map, and all old ones stay as they were.
func TestP14_1Random(t *testing.T) {
	for seed := range int64(30) {
		r := rand.New(rand.NewSource(seed))
		s := &shelf{}
		root, m := mustEmpty(t, s), model{}
		var old []Root
		var was [][]Entry
		most := 1 + r.Intn(40)
		for round := range 150 {
			// It grows for a while, and then it shrinks.
			share := 8
			if round/30%2 == 1 {
				share = 2
			}
			from, to := 0, api.MaxSectors
			if r.Intn(3) == 0 {
				from = r.Intn(api.MaxSectors - 20)
				to = from + 20
			}
			keys := someKeys(r, most, from, to)
			old, was = append(old, root), append(was, m.list())
			before := len(s.nodes)
			if r.Intn(10) < share {
				l := entriesFor(round, keys...)
				for i := range l {
					l[i].Gen += r.Intn(3)
				}
				root = mustPut(t, s, root, l)
				m.put(l)
			} else {
				root = mustCut(t, s, root, keys)
				m.cut(keys)
			}
			mustHave(t, s, root, m.list())
			mustSaveNewOnly(t, s, old[len(old)-1], root, before)
			mustBeShaped(t, s, root)
			if round%10 == 0 {
				mustGetAll(t, s, root, m)
			}
		}
		for i := range old {
			mustHave(t, s, old[i], was[i])
		}
		s.mustBeIntact(t)
	}
}

// One after another, in several orders.
func TestP14_1AllKeys(t *testing.T) {
	orders := [][]int{counted(0, 1, 512), counted(511, -1, 512), rand.New(rand.NewSource(1)).Perm(512)}
	var turns []int
	for i := range 256 {
		turns = append(turns, i, 511-i)
	}
	orders = append(orders, turns)
	for _, up := range orders {
		for _, down := range orders {
			s := &shelf{}
			r, m := treeOf(t, s, up...)
			mustHave(t, s, r, m.list())
			mustGetAll(t, s, r, m)
			mustBeShaped(t, s, r)
			for _, key := range down {
				r = mustCut(t, s, r, []int{key})
				m.cut([]int{key})
				mustHave(t, s, r, m.list())
			}
			if r.Height != 0 {
				t.Errorf("the height is %d without keys", r.Height)
			}
		}
	}
}

func TestP14_1Nodes(t *testing.T) {
	for _, count := range []int{0, 1, 8, 9, 20, 100, 512} {
		s := &shelf{}
		r, _ := treeOf(t, s, counted(0, 1, count)...)
		s.reset()
		l, e := Nodes(s, r)
		if e != api.OK || len(l) == 0 || l[0] != r.Kid || s.loads != len(l) || s.saves != 0 {
			t.Fatalf("%d keys: Nodes = %v, %v after %d loads", count, l, e, s.loads)
		}
		// They are all that can be reached, each once.
		var want []node.Kid
		level := []node.Kid{r.Kid}
		for len(level) > 0 {
			want = append(want, level...)
			var next []node.Kid
			for _, k := range level {
				next = append(next, s.nodes[numberOf(k)].Kids...)
			}
			level = next
		}
		order := func(a, b node.Kid) int { return numberOf(a) - numberOf(b) }
		slices.SortFunc(want, order)
		if slices.SortFunc(l, order); !slices.Equal(l, want) {
			t.Errorf("%d keys: Nodes = %v, want %v", count, l, want)
		}
	}
}

// A list that is handed in stays as it is, what lies behind its end too.
func TestP14_1Arguments(t *testing.T) {
	s := &shelf{}
	r, _ := treeOf(t, s, counted(0, 7, 70)...)
	l := entriesFor(9, 300, 5, 5, 300, 77, 0, 1, 2, 3, 4, 6, 8, 9, 10, 11, 12, 13, 511, 510, 509)
	wasL := slices.Clone(l)
	q := mustPut(t, s, r, l[:12])
	want, _ := All(s, q)
	if !slices.Equal(l, wasL) {
		t.Errorf("Put changed its list to %v", l)
	}
	keys := []int{300, 0, 7, 7, 14, 490, 483, 1, 21, 28, 35, 42, 49}
	wasKeys := slices.Clone(keys)
	p := mustCut(t, s, r, keys[:7])
	wantCut, _ := All(s, p)
	if !slices.Equal(keys, wasKeys) {
		t.Errorf("Cut changed its list to %v", keys)
	}
	clear(l)
	clear(keys)
	mustHave(t, s, q, want)
	mustHave(t, s, p, wantCut)
	s.mustBeIntact(t)
}

func TestP14_1ResultsAreNewMemory(t *testing.T) {
	s := &shelf{}
	r, m := treeOf(t, s, counted(0, 7, 70)...)
	for range 2 {
		l, e := All(s, r)
		if e != api.OK || !slices.Equal(l, m.list()) {
			t.Errorf("All = %v, %v", l, e)
		}
		clear(l[:cap(l)])
		kids, e := Nodes(s, r)
		if e != api.OK || kids[0] != r.Kid || slices.Contains(kids, node.Kid{}) {
			t.Errorf("Nodes = %v, %v", kids, e)
		}
		clear(kids[:cap(kids)])
	}
	s.mustBeIntact(t)
}

// The lists of nodes that are saved share no memory: a store may change its own.
func TestP14_1SavedNodesAreNewMemory(t *testing.T) {
	s := &shelf{}
	r := mustPut(t, s, mustEmpty(t, s), entriesFor(1, counted(0, 1, 200)...))
	r = mustCut(t, s, r, counted(3, 2, 50))
	for i := range s.nodes {
		n := s.nodes[i]
		clear(n.Keys[:cap(n.Keys)])
		clear(n.Places[:cap(n.Places)])
		clear(n.Gens[:cap(n.Gens)])
		clear(n.Kids[:cap(n.Kids)])
		s.nodes[i] = s.copies[i]
		s.mustBeIntact(t)
	}
}
