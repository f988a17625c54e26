package walk

import (
	"concertina/api"
	"concertina/node"
	"concertina/slab"
	"concertina/tree"
)

// Lost is the sectors from From to To - 1, which cannot be read.
type Lost struct {
	From, To int
}

// Check returns which of the first sectors cannot be read in the tree r.
func Check(s *slab.Slab, r tree.Root, sectors int) []Lost {
	if s == nil {
		return nil
	}
	c := &checker{s: s, sectors: sectors, slots: map[name]int{}}
	c.node(branch{kid: r.Kid, height: r.Height, to: api.MaxSectors})
	return c.lost
}

// branch is a node with what is known of it from above: its height, and that its
// keys are from from to to - 1.
type branch struct {
	kid      node.Kid
	height   int
	from, to int
}

// branchOf is child i of n, the node of b.
func branchOf(b branch, n node.Node, i int) branch {
	child := branch{kid: n.Kids[i], height: b.height - 1, from: n.Keys[i], to: b.to}
	if i+1 < len(n.Keys) {
		child.to = n.Keys[i+1]
	}
	return child
}

// checker meets the nodes of a tree from left to right.
type checker struct {
	s       *slab.Slab
	sectors int
	// slots is how many slots each extent has that was read, 0 if it could not
	// be read. So each is read once, and its sectors are lost together or not.
	slots map[name]int
	lost  []Lost
}

// node checks the subtree of b.
func (c *checker) node(b branch) {
	if b.from >= c.sectors {
		return
	}
	n, ok := c.load(b)
	if !ok {
		c.lose(b.from, b.to)
		return
	}
	for i := range n.Places {
		c.entry(n.Keys[i], n.Places[i], n.Gens[i])
	}
	for i := range n.Kids {
		c.node(branchOf(b, n, i))
	}
}

// load returns the node of b, or false if it is not there or not as b says.
func (c *checker) load(b branch) (node.Node, bool) {
	n, e := c.s.Load(b.kid)
	if e != api.OK || n.Height != b.height {
		return node.Node{}, false
	}
	// What Load returns is valid, so the keys ascend.
	if last := len(n.Keys) - 1; last >= 0 && (n.Keys[0] < b.from || n.Keys[last] >= b.to) {
		return node.Node{}, false
	}
	return n, true
}

// entry checks a sector that has an entry.
func (c *checker) entry(sector int, p api.Place, gen int) {
	if sector < c.sectors && p.Slot >= c.slotsOf(p, gen) {
		c.lose(sector, sector+1)
	}
}

func (c *checker) slotsOf(p api.Place, gen int) int {
	k := nameOf(p, gen)
	n, is := c.slots[k]
	if !is {
		// Beside an error there are no sectors.
		l, _ := c.s.Extent(p, gen)
		n = len(l)
		c.slots[k] = n
	}
	return n
}

// lose notes that the sectors from from to to - 1 are lost. All sectors that
// were noted before are less.
func (c *checker) lose(from, to int) {
	to = min(to, c.sectors)
	if last := len(c.lost) - 1; last >= 0 && c.lost[last].To == from {
		c.lost[last].To = to
		return
	}
	c.lost = append(c.lost, Lost{From: from, To: to})
}
