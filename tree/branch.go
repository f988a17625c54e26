package tree

import (
	"concertina/api"
	"concertina/node"
)

// branch is a node in the store, with what is known of it from above: its
// height, and that its keys are from its first key to the one before end.
type branch struct {
	kid        node.Kid
	height     int
	first, end int
}

// trunk is the root node.
func trunk(r Root) branch {
	return branch{kid: r.Kid, height: r.Height, end: api.MaxSectors}
}

// branchOf is child i of n, the node of b.
func branchOf(b branch, n node.Node, i int) branch {
	child := branch{kid: n.Kids[i], height: b.height - 1, first: n.Keys[i], end: b.end}
	if i+1 < len(n.Keys) {
		child.end = n.Keys[i+1]
	}
	return child
}

// load returns the node of b, which is valid and as b says.
func load(s Store, b branch) (node.Node, api.Errno) {
	n, e := s.Load(b.kid)
	if e != api.OK {
		return node.Node{}, e
	}
	if !node.May(n) || n.Height != b.height {
		return node.Node{}, api.ErrForm
	}
	// The keys of a valid node ascend.
	if last := len(n.Keys) - 1; last >= 0 && (n.Keys[0] < b.first || n.Keys[last] >= b.end) {
		return node.Node{}, api.ErrForm
	}
	return n, api.OK
}

// visit calls f with each node of the subtree b: a node comes before those
// below it, and a child before the next one.
func visit(s Store, b branch, f func(node.Kid, node.Node)) api.Errno {
	n, e := load(s, b)
	if e != api.OK {
		return e
	}
	f(b.kid, n)
	for i := range n.Kids {
		if e := visit(s, branchOf(b, n, i), f); e != api.OK {
			return e
		}
	}
	return api.OK
}
