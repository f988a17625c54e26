package device

import (
	"slices"

	"concertina/api"
	"concertina/buffer"
	"concertina/extent"
	"concertina/tree"
)

// Flush commits everything that is pending.
func (d *Device) Flush() api.Errno {
	if d == nil {
		return api.ErrArg
	}
	if d.Pending() == 0 {
		return api.OK
	}
	if d.Frozen() {
		return api.ErrState
	}
	err := d.commit(d.pending.List())
	// What has frozen the engine is a commit whose state is the current one all
	// the same.
	if err == api.OK || d.Frozen() {
		d.pending.Clear()
		return err
	}
	d.engine.Abort()
	return err
}

// commit makes the state that has the items l the current one.
func (d *Device) commit(l []buffer.Item) api.Errno {
	var written []buffer.Item
	var cut []int
	for _, x := range l {
		if x.Data == nil {
			cut = append(cut, x.Sector)
		} else {
			written = append(written, x)
		}
	}
	var put []tree.Entry
	for group := range slices.Chunk(written, api.Slots) {
		entries, err := d.store(group)
		if err != api.OK {
			return err
		}
		put = append(put, entries...)
	}
	return d.engine.Commit(put, cut)
}

// store writes an extent of the items l, and returns their entries.
func (d *Device) store(l []buffer.Item) ([]tree.Entry, api.Errno) {
	crown := d.engine.Crown()
	gen := crown.Gen + 1
	var sectors [][]byte
	for _, x := range l {
		sectors = append(sectors, x.Data)
	}
	b, err := extent.Build(sectors, gen, crown.Gain)
	if err != api.OK {
		return nil, err
	}
	run, err := d.engine.Slab().Write(b)
	if err != api.OK {
		return nil, err
	}
	var entries []tree.Entry
	for slot, x := range l {
		place := api.Place{At: run.At, N: run.N, Slot: slot}
		entries = append(entries, tree.Entry{Key: x.Sector, P: place, Gen: gen})
	}
	return entries, api.OK
}
