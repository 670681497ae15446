package dir

import (
	"slices"

	"breakwater/api"
	"breakwater/blocks"
	"breakwater/layout"
)

// Set puts a slot.
func (x *Dirs) Set(d, k int, s api.Slot, after ...int) api.Errno {
	inode, e := x.directory(d)
	if e != api.OK {
		return e
	}
	if _, _, _, e := blocks.Way(k); e != api.OK {
		return e
	}
	data, e := layout.SlotSector(s)
	if e != api.OK {
		return e
	}
	held, e := x.held(inode, k, s)
	if e != api.OK {
		return e
	}
	// A list of its own: what the caller's has behind its end is the caller's, too.
	block := api.Block{Index: k, Data: data, After: slices.Concat(after, held)}
	return x.files.Lay(d, (k+1)*api.SectorSize, block)
}

// held are the sectors of a directory's other slots that hold the name of a slot on the disk still, though another thing was put there. Till they have landed, the name would stand twice.
func (x *Dirs) held(inode api.Inode, k int, s api.Slot) ([]int, api.Errno) {
	if s == (api.Slot{}) {
		return nil, api.OK
	}
	sectors, e := x.sectors(inode)
	if e != api.OK {
		return nil, e
	}
	if k < len(sectors) {
		sectors[k] = 0
	}
	var list []int
others:
	for _, n := range x.dirtyOf(sectors) {
		stands, e := x.cache.Stands(n)
		if e != api.OK {
			return nil, e
		}
		if stands == (api.Sector{}) {
			continue others
		}
		if old, e := layout.ReadSlot(stands); e == api.OK && old.Name == s.Name {
			list = append(list, n)
		}
	}
	slices.Sort(list)
	return list, api.OK
}
