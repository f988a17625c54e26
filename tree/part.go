package tree

import (
	"slices"

	"concertina/api"
	"concertina/node"
)

// few is the number of parts below which a node is merged with a neighbour. As
// nodes other than the root have at least that many, no tree gets too high: with
// MaxSectors keys there are five levels at most.
const few = api.Fan / 2

// part is what a node has for a key: a leaf has an entry, an inner node has a
// child, which is either in the store as it is or fresh.
type part struct {
	key   int
	entry Entry
	old   branch
	fresh bool
	below []part // what a fresh child has
}

// fresh is a child with the parts l, to be saved.
func fresh(l []part) part {
	x := part{fresh: true, below: l}
	if len(l) > 0 {
		x.key = l[0].key
	}
	return x
}

// isSmall tells whether a child is to be merged with a neighbour. Those that
// stay in the store as they are need not be.
func (x part) isSmall() bool {
	return x.fresh && len(x.below) < few
}

// partsOf returns the parts of the node of b.
func partsOf(s Store, b branch) ([]part, api.Errno) {
	n, e := load(s, b)
	if e != api.OK {
		return nil, e
	}
	l := make([]part, len(n.Keys))
	for i, key := range n.Keys {
		if n.Height == 0 {
			l[i] = part{key: key, entry: entryOf(n, i)}
		} else {
			l[i] = part{key: key, old: branchOf(b, n, i)}
		}
	}
	return l, api.OK
}

// open returns the parts of a child.
func open(s Store, x part) ([]part, api.Errno) {
	if x.fresh {
		return x.below, api.OK
	}
	return partsOf(s, x.old)
}

// fit makes fresh children fit to be saved: those with too few parts are merged
// with neighbours, those with too many are split, and those without any go.
// The height is that of the children. Only if a single one is left it can still
// have too few; it gets neighbours when its parent is merged.
func fit(s Store, l []part, height int) ([]part, api.Errno) {
	var out []part
	for _, x := range l {
		if x.fresh && len(x.below) == 0 {
			continue
		}
		out = append(out, x)
		if n := len(out); n > 1 && out[n-2].isSmall() {
			var e api.Errno
			if out, e = joinLast(s, out, height); e != api.OK {
				return nil, e
			}
		}
	}
	for len(out) > 1 && out[len(out)-1].isSmall() {
		var e api.Errno
		if out, e = joinLast(s, out, height); e != api.OK {
			return nil, e
		}
	}
	return split(out), api.OK
}

// joinLast merges the last two children of l, of that height.
func joinLast(s Store, l []part, height int) ([]part, api.Errno) {
	n := len(l)
	a, e := open(s, l[n-2])
	if e != api.OK {
		return nil, e
	}
	b, e := open(s, l[n-1])
	if e != api.OK {
		return nil, e
	}
	both := slices.Concat(a, b)
	if height > 0 {
		if both, e = fit(s, both, height-1); e != api.OK {
			return nil, e
		}
	}
	return append(l[:n-2], fresh(both)), api.OK
}

// split splits the fresh children that have too many parts.
func split(l []part) []part {
	var out []part
	for _, x := range l {
		if x.fresh {
			out = append(out, pieces(x.below)...)
		} else {
			out = append(out, x)
		}
	}
	return out
}

// pieces returns the fewest children that can have the parts l, each with as
// many of them as the others, or one more.
func pieces(l []part) []part {
	count := (len(l) + api.Fan - 1) / api.Fan
	var out []part
	for i := range count {
		out = append(out, fresh(l[i*len(l)/count:(i+1)*len(l)/count]))
	}
	return out
}

// plant saves a tree and returns its root. The parts l are those of a root of
// that height, if they are as many as a root can have.
func plant(s Store, l []part, height int) (Root, api.Errno) {
	for height > 0 && len(l) == 1 {
		height--
		if !l[0].fresh {
			return Root{Kid: l[0].old.kid, Height: height}, api.OK
		}
		l = l[0].below
	}
	if len(l) == 0 {
		height = 0
	}
	for len(l) > api.Fan && height < api.MaxHeight-1 {
		l, height = pieces(l), height+1
	}
	l, e := narrowed(s, l)
	if e != api.OK {
		return Root{}, e
	}
	kid, e := save(s, l, height)
	if e != api.OK {
		return Root{}, e
	}
	return Root{Kid: kid, Height: height}, api.OK
}

// save saves a node with the parts l, and before it all that is fresh below it.
func save(s Store, l []part, height int) (node.Kid, api.Errno) {
	n := node.Node{Height: height}
	for _, x := range l {
		n.Keys = append(n.Keys, x.key)
		if height == 0 {
			n.Places = append(n.Places, x.entry.P)
			n.Gens = append(n.Gens, x.entry.Gen)
			continue
		}
		kid := x.old.kid
		if x.fresh {
			var e api.Errno
			if kid, e = save(s, x.below, height-1); e != api.OK {
				return node.Kid{}, e
			}
		}
		n.Kids = append(n.Kids, kid)
	}
	// Nobody knows what Save has returned as a kid.
	if !node.May(n) {
		return node.Kid{}, api.ErrForm
	}
	return s.Save(n)
}
