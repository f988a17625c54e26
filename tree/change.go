package tree

import (
	"cmp"
	"slices"

	"concertina/api"
)

// edit is what is done to one key: it gets an entry, or it is cut.
type edit struct {
	entry Entry
	cut   bool
}

// change returns the root of the tree r after the edits. It saves nothing
// before it has loaded all that it needs, so that where a node cannot be read
// nothing is left behind in the store.
func change(s Store, r Root, edits []edit) (Root, api.Errno) {
	if len(edits) == 0 {
		return r, api.OK
	}
	l, changed, e := edited(s, trunk(r), inOrder(edits))
	if e != api.OK {
		return Root{}, e
	}
	if !changed {
		return r, api.OK
	}
	return plant(s, l, r.Height)
}

// inOrder sorts edits by their keys, and leaves the last of those with one key.
func inOrder(l []edit) []edit {
	slices.SortStableFunc(l, func(a, b edit) int {
		return cmp.Compare(a.entry.Key, b.entry.Key)
	})
	var out []edit
	for i, x := range l {
		if i+1 == len(l) || l[i+1].entry.Key != x.entry.Key {
			out = append(out, x)
		}
	}
	return out
}

// edited returns the parts that the node of b has after the edits, which may be
// too many or too few for one node, and whether anything below it has changed.
func edited(s Store, b branch, edits []edit) ([]part, bool, api.Errno) {
	l, e := partsOf(s, b)
	if e != api.OK {
		return nil, false, e
	}
	if b.height == 0 {
		after := merged(l, edits)
		return after, !slices.EqualFunc(l, after, sameEntry), api.OK
	}
	changed := false
	for i, x := range l {
		// What is less than all keys goes to the first child.
		mine := countBefore(edits, x.old.end)
		if mine == 0 {
			continue
		}
		below, is, e := edited(s, x.old, edits[:mine])
		if e != api.OK {
			return nil, false, e
		}
		if is {
			l[i] = fresh(below)
			changed = true
		}
		edits = edits[mine:]
	}
	if !changed {
		return nil, false, api.OK
	}
	l, e = fit(s, l, b.height-1)
	return l, true, e
}

// countBefore counts the edits of keys less than end.
func countBefore(edits []edit, end int) int {
	n, _ := slices.BinarySearchFunc(edits, end, func(x edit, end int) int {
		return cmp.Compare(x.entry.Key, end)
	})
	return n
}

// merged returns the parts that a leaf with the parts l has after the edits.
func merged(l []part, edits []edit) []part {
	var out []part
	for _, x := range edits {
		for len(l) > 0 && l[0].key < x.entry.Key {
			out, l = append(out, l[0]), l[1:]
		}
		if len(l) > 0 && l[0].key == x.entry.Key {
			l = l[1:]
		}
		if !x.cut {
			out = append(out, part{key: x.entry.Key, entry: x.entry})
		}
	}
	return append(out, l...)
}

func sameEntry(a, b part) bool {
	return a.entry == b.entry
}
