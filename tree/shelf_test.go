package tree

import (
	"maps"
	"math/rand"
	"slices"
	"testing"

	"concertina/api"
	"concertina/node"
)

// shelf is a store for tests. It hands out the very slices that it was given,
// and checks in the end that nobody has changed them.
type shelf struct {
	nodes, copies []node.Node
	loads, saves  int
	// The load or the save of this number, from 1 on, fails with err.
	badLoad, badSave int
	err              api.Errno
	after            int               // calls after one that has failed
	instead          map[int]node.Node // what is loaded instead of the node of that number
	invalid          int               // invalid nodes that should be saved
	kid              func(i int) node.Kid
}

// kidOf names node i.
func kidOf(i int) node.Kid {
	return node.Kid{At: i % 4000, N: 1 + i%128, Gen: i / 4000}
}

func numberOf(k node.Kid) int {
	return k.Gen*4000 + k.At
}

func (s *shelf) failed() bool {
	return s.badLoad > 0 && s.loads >= s.badLoad || s.badSave > 0 && s.saves >= s.badSave
}

func (s *shelf) Load(k node.Kid) (node.Node, api.Errno) {
	if s.failed() {
		s.after++
	}
	s.loads++
	i := numberOf(k)
	if i < 0 || i >= len(s.nodes) || k != kidOf(i) {
		return node.Node{}, api.ErrIO
	}
	n := s.nodes[i]
	if other, is := s.instead[i]; is {
		n = other
	}
	if s.loads == s.badLoad {
		return n, s.err
	}
	return n, api.OK
}

func (s *shelf) Save(n node.Node) (node.Kid, api.Errno) {
	if s.failed() {
		s.after++
	}
	s.saves++
	if !node.May(n) {
		s.invalid++
	}
	s.nodes = append(s.nodes, n)
	s.copies = append(s.copies, copyOf(n))
	k := kidOf(len(s.nodes) - 1)
	if s.kid != nil {
		k = s.kid(len(s.nodes) - 1)
	}
	if s.saves == s.badSave {
		return k, s.err
	}
	return k, api.OK
}

func copyOf(n node.Node) node.Node {
	n.Keys, n.Gens = slices.Clone(n.Keys), slices.Clone(n.Gens)
	n.Places, n.Kids = slices.Clone(n.Places), slices.Clone(n.Kids)
	return n
}

func sameNode(a, b node.Node) bool {
	return a.Height == b.Height && slices.Equal(a.Keys, b.Keys) && slices.Equal(a.Gens, b.Gens) &&
		slices.Equal(a.Places, b.Places) && slices.Equal(a.Kids, b.Kids)
}

// mustBeIntact asks that all saved nodes are valid, and still as they were.
func (s *shelf) mustBeIntact(t *testing.T) {
	t.Helper()
	if s.invalid > 0 {
		t.Errorf("%d saved nodes are invalid", s.invalid)
	}
	for i, n := range s.nodes {
		if !sameNode(n, s.copies[i]) {
			t.Errorf("node %d was saved as %+v and is now %+v", i, s.copies[i], n)
		}
	}
}

// reset forgets what has been counted and planned.
func (s *shelf) reset() {
	s.loads, s.saves, s.badLoad, s.badSave, s.after, s.instead = 0, 0, 0, 0, 0, nil
}

// entry is an entry of a key, whose other numbers depend on key and x.
func entry(key, x int) Entry {
	n := 1 + (key+x)%128
	return Entry{Key: key, P: api.Place{At: (key*x + x) % (api.MaxBlocks - n + 1), N: n, Slot: (key + 3*x) % api.Slots}, Gen: x}
}

func entriesFor(x int, keys ...int) []Entry {
	var l []Entry
	for _, key := range keys {
		l = append(l, entry(key, x))
	}
	return l
}

// counted is count keys from first on, each by step more.
func counted(first, step, count int) []int {
	var l []int
	for i := range count {
		l = append(l, first+i*step)
	}
	return l
}

// model is what a tree should have.
type model map[int]Entry

func (m model) put(l []Entry) {
	for _, x := range l {
		m[x.Key] = x
	}
}

func (m model) cut(keys []int) {
	for _, key := range keys {
		delete(m, key)
	}
}

func (m model) list() []Entry {
	var l []Entry
	for _, key := range slices.Sorted(maps.Keys(m)) {
		l = append(l, m[key])
	}
	return l
}

func mustEmpty(t *testing.T, s Store) Root {
	t.Helper()
	r, e := Empty(s)
	if e != api.OK {
		t.Fatalf("Empty: %v", e)
	}
	return r
}

// mustPut is Put, with no more saves than there may be.
func mustPut(t *testing.T, s *shelf, r Root, l []Entry) Root {
	t.Helper()
	before := s.saves
	q, e := Put(s, r, l)
	mustSaveFew(t, "Put", len(l), s.saves-before, e)
	return q
}

// mustCut is Cut, with no more saves than there may be.
func mustCut(t *testing.T, s *shelf, r Root, keys []int) Root {
	t.Helper()
	before := s.saves
	q, e := Cut(s, r, keys)
	mustSaveFew(t, "Cut", len(keys), s.saves-before, e)
	return q
}

func mustSaveFew(t *testing.T, what string, count, saves int, e api.Errno) {
	t.Helper()
	if most := 3 * (count + 1) * api.MaxHeight; e != api.OK || saves > most {
		t.Fatalf("%s of %d: %v, and %d saves, at most %d wanted", what, count, e, saves, most)
	}
}

func mustHave(t *testing.T, s Store, r Root, want []Entry) {
	t.Helper()
	if l, e := All(s, r); e != api.OK || !slices.Equal(l, want) {
		t.Fatalf("All of %+v = %v, %v, want %v", r, l, e, want)
	}
}

// mustGetAll asks for the entry of each key there can be.
func mustGetAll(t *testing.T, s Store, r Root, m model) {
	t.Helper()
	for key := range api.MaxSectors {
		want, wantIs := m[key]
		if x, is, e := Get(s, r, key); x != want || is != wantIs || e != api.OK {
			t.Fatalf("Get(%d) = %+v, %v, %v, want %+v, %v", key, x, is, e, want, wantIs)
		}
	}
}

// treeOf is a tree that has been given these keys one by one.
func treeOf(t *testing.T, s *shelf, keys ...int) (Root, model) {
	t.Helper()
	r, m := mustEmpty(t, s), model{}
	for _, key := range keys {
		l := entriesFor(1, key)
		r = mustPut(t, s, r, l)
		m.put(l)
	}
	return r, m
}

// someKeys is up to most keys, some of them more than once.
func someKeys(r *rand.Rand, most, from, to int) []int {
	var l []int
	for range r.Intn(most + 1) {
		l = append(l, from+r.Intn(to-from))
	}
	return l
}
