package depth

import (
	"slices"

	"concertina/api"
)

// forest is trees that are being joined to a single one. Its nodes are the leaves
// and, behind them, the inner nodes. Both ascend by their weights, so that the
// lightest root is always the first one of either kind.
type forest struct {
	weights []int
	parents []int
	leaves  int
	// leaf and inner are the first ones of their kind without a parent.
	leaf, inner int
}

// depths returns how deep the leaves of a Huffman tree lie, where the root is at
// depth 0. The weights of the leaves must ascend; no leaf lies deeper than the
// ones before it.
func depths(weights []int) []int {
	n := len(weights)
	f := &forest{weights: slices.Clone(weights), parents: make([]int, max(2*n-1, 0)), leaves: n, inner: n}
	for range n - 1 {
		f.join()
	}
	l := make([]int, len(f.parents))
	// A parent stands behind its children, and the root last of all.
	for i := len(l) - 2; i >= 0; i-- {
		l[i] = l[f.parents[i]] + 1
	}
	return l[:n]
}

// join makes the two lightest roots the children of a new one.
func (f *forest) join() {
	parent := len(f.weights)
	a, b := f.lightest(), f.lightest()
	f.parents[a], f.parents[b] = parent, parent
	f.weights = append(f.weights, f.weights[a]+f.weights[b])
}

// lightest takes the lightest root. Of two that are equally light it takes the
// leaf, as this keeps the tree flat.
func (f *forest) lightest() int {
	if f.leaf < f.leaves && (f.inner == len(f.weights) || f.weights[f.leaf] <= f.weights[f.inner]) {
		f.leaf++
		return f.leaf - 1
	}
	f.inner++
	return f.inner - 1
}

// flatter returns lengths of codewords, each from 1 to api.MaxLen, for leaves
// that lie at depths in a tree. Neither the depths nor the lengths ascend.
func flatter(depths []int) []int {
	l := make([]int, len(depths))
	// What lies too deep is moved up, where there is not room for all of it.
	over := -whole
	for i, x := range depths {
		// A root that is a leaf needs a codeword as well.
		l[i] = min(max(x, 1), api.MaxLen)
		over += whole >> l[i]
	}
	for ; over > 0; over-- {
		// The deepest leaf above the bottom moves down by one level, and a leaf
		// from the bottom becomes its brother: at the bottom this frees one
		// place. Both exist. If all leaves were at the bottom there would be
		// room, as 256 are less than whole; and of the leaves that were moved up
		// out of one subtree all but one are too many, so that one is left.
		i := slices.IndexFunc(l, func(x int) bool { return x < api.MaxLen })
		l[i]++
		l[i-1] = l[i]
	}
	return l
}
