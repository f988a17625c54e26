package commit

import (
	"concertina/api"
	"concertina/crown"
	"concertina/gain"
	"concertina/platter"
	"concertina/runs"
	"concertina/shares"
	"concertina/slab"
	"concertina/tree"
	"concertina/walk"
)

const (
	// crowns is the number of blocks, from block 0 on, that hold crowns.
	crowns = 2
	// firstGen is the generation of what Format writes.
	firstGen = 1
)

// Format makes an empty disk of so many sectors, with the threshold x.
func Format(p *platter.Platter, sectors int, x float64) api.Errno {
	if p == nil || sectors < 1 || sectors > api.MaxSectors {
		return api.ErrArg
	}
	if err := erase(p); err != api.OK {
		return err
	}
	root, err := plant(p)
	if err != api.OK {
		return err
	}
	c := crown.Crown{Gen: firstGen, Blocks: p.Blocks(), Sectors: sectors, Gain: gain.Fix(x), Root: root}
	if err := writeCrown(p, firstGen%crowns, c); err != api.OK {
		return err
	}
	return p.Sync()
}

// Mount opens a disk that Format has made.
func Mount(p *platter.Platter) (*Engine, api.Errno) {
	if p == nil {
		return nil, api.ErrArg
	}
	// What is cached belongs to the state, and it must not be lost any more once
	// blocks are used that only an older state needs.
	if err := p.Sync(); err != api.OK {
		return nil, err
	}
	c, block, err := current(p)
	if err != api.OK {
		return nil, err
	}
	if c.Blocks != p.Blocks() {
		return nil, api.ErrForm
	}
	u, err := walk.Uses(reader(p), c.Root)
	if err != api.OK {
		return nil, err
	}
	free, counts, err := walk.Fill(u, c.Blocks)
	if err != api.OK {
		return nil, err
	}
	s := slab.New(p, counts, free, c.Gen+1)
	return &Engine{disk: p, crown: c, block: block, slab: s, free: free, counts: counts}, api.OK
}

// erase makes the blocks of the crowns blank. From then on, until Format is at
// its end, there is no disk, whatever a crash leaves.
func erase(p *platter.Platter) api.Errno {
	for block := range crowns {
		if err := p.Write(block, make([]byte, api.Block)); err != api.OK {
			return err
		}
	}
	return p.Sync()
}

// plant writes an empty tree, and returns its root once it is durable.
func plant(p *platter.Platter) (tree.Root, api.Errno) {
	free := runs.New(p.Blocks())
	free.Mark(0, crowns)
	root, err := tree.Empty(slab.New(p, shares.New(free), free, firstGen))
	if err != api.OK {
		return tree.Root{}, err
	}
	return root, p.Sync()
}

// current returns the current crown and the number of its block.
func current(p *platter.Platter) (crown.Crown, int, api.Errno) {
	a, err := p.Read(0)
	if err != api.OK {
		return crown.Crown{}, 0, err
	}
	b, err := p.Read(1)
	if err != api.OK {
		return crown.Crown{}, 0, err
	}
	return crown.Choose(a, b)
}

// reader returns a slab that has no free blocks, and so writes nothing.
func reader(p *platter.Platter) *slab.Slab {
	none := runs.New(0)
	return slab.New(p, shares.New(none), none, 0)
}
