package tree

import (
	"slices"

	"concertina/api"
)

// narrowed returns the parts l of a root that cannot be split, as the tree would
// be too high, so that there are no more than Fan. No tree that Put and Cut have
// made is ever so high, but other valid ones can be, as their nodes may have few
// parts. Of neighbouring children, those that have the fewest entries together
// are built anew as one child.
func narrowed(s Store, l []part) ([]part, api.Errno) {
	if len(l) <= api.Fan {
		return l, api.OK
	}
	const height = api.MaxHeight - 2
	lists := make([][]part, len(l))
	for i, x := range l {
		var e api.Errno
		if lists[i], e = entries(s, x, height); e != api.OK {
			return nil, e
		}
	}
	wide := len(l) - api.Fan + 1
	first := lightest(lists, wide)
	one := slices.Concat(lists[first : first+wide]...)
	for range height + 1 {
		one = pieces(one)
	}
	return slices.Replace(l, first, first+wide, one...), api.OK
}

// entries returns the parts of all leaves in a subtree of that height.
func entries(s Store, x part, height int) ([]part, api.Errno) {
	l, e := open(s, x)
	if e != api.OK || height == 0 {
		return l, e
	}
	var out []part
	for _, y := range l {
		below, e := entries(s, y, height-1)
		if e != api.OK {
			return nil, e
		}
		out = append(out, below...)
	}
	return out, api.OK
}

// lightest returns the first of so many neighbouring lists that are the shortest
// together.
func lightest(lists [][]part, wide int) int {
	best, least := 0, 0
	for i := range len(lists) - wide + 1 {
		total := 0
		for _, l := range lists[i : i+wide] {
			total += len(l)
		}
		if i == 0 || total < least {
			best, least = i, total
		}
	}
	return best
}
