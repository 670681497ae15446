package dir

import (
	"breakwater/api"
	"breakwater/blocks"
	"breakwater/layout"
)

// slots reads all slots of a directory.
func (x *Dirs) slots(inode api.Inode) ([]api.Slot, api.Errno) {
	sectors, e := x.sectors(inode)
	if e != api.OK {
		return nil, e
	}
	list := make([]api.Slot, len(sectors))
	for k, n := range sectors {
		if n == 0 {
			continue
		}
		s, e := x.cache.Read(n)
		if e != api.OK {
			return nil, e
		}
		if list[k], e = layout.ReadSlot(s); e != api.OK {
			return nil, e
		}
	}
	return list, api.OK
}

// sectors are those of the slots, in their order; 0: a hole. What lies behind the size is not gone to: no table that leads there alone is read.
func (x *Dirs) sectors(inode api.Inode) ([]int, api.Errno) {
	count := inode.Size / api.SectorSize
	list := make([]int, 0, count)
rows:
	for len(list) < count {
		row, e := x.row(inode, len(list))
		if e != api.OK {
			return nil, e
		}
		for _, n := range row {
			if len(list) == count {
				break rows
			}
			list = append(list, n)
		}
	}
	return list, api.OK
}

// row are the pointers from that of a block on which stand beside it: so a table is read once for all slots to which it leads.
func (x *Dirs) row(inode api.Inode, k int) ([]int, api.Errno) {
	depth, i, j, e := blocks.Way(k)
	if e != api.OK {
		return nil, e
	}
	if depth == 0 {
		return inode.Direct[i:], api.OK
	}
	if depth == 1 {
		single, e := x.table(inode.Single)
		return single[i:], e
	}
	double, e := x.table(inode.Double)
	if e != api.OK {
		return nil, e
	}
	inner, e := x.table(double[i])
	return inner[j:], e
}

// table reads one; where there is none, all to which it would lead are holes.
func (x *Dirs) table(n int) (api.Pointers, api.Errno) {
	if n == 0 {
		return api.Pointers{}, api.OK
	}
	s, e := x.cache.Read(n)
	if e != api.OK {
		return api.Pointers{}, e
	}
	return layout.ReadPointers(s), api.OK
}
