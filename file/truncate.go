package file

import (
	"breakwater/api"
	"breakwater/blocks"
	"breakwater/sector"
)

// Truncate makes a file so long.
func (f *Files) Truncate(i, size int) api.Errno {
	x, e := f.plain(i)
	if e != api.OK {
		return e
	}
	if size < 0 || size > api.MaxFile {
		return api.ErrFileRange
	}
	if size == x.Size {
		return api.OK
	}
	if size < x.Size {
		return f.shorten(i, x, size)
	}
	x.Size = size
	return f.Put(i, x)
}

// shorten is Truncate to less than there is.
func (f *Files) shorten(i int, x api.Inode, size int) api.Errno {
	// Worked out ahead of the first Put: so nothing has changed, if a table is refused.
	c, e := f.cutOff(i, x, size)
	if e != api.OK {
		return e
	}
	if e := f.wipeEnd(x, size); e != api.OK {
		return e
	}
	if e := each(c.tables, f.putTable); e != api.OK {
		return e
	}
	if e := f.Put(i, c.inode); e != api.OK {
		return e
	}
	// Behind all Puts: a tag that is marked at a sector which is not dirty would land at once.
	if e := each(c.losses, f.giveUp); e != api.OK {
		return e
	}
	if e := f.Fsync(i); e != api.OK {
		return e
	}
	return f.Settle()
}

// wipeEnd wipes the block in which a size lies, from there on, so that zeros stand there when the file grows again.
func (f *Files) wipeEnd(x api.Inode, size int) api.Errno {
	if size%api.SectorSize == 0 {
		return api.OK
	}
	n, e := blocks.Find(f.cache, x, size/api.SectorSize)
	if e != api.OK || n == 0 {
		return e
	}
	s, e := f.cache.Read(n)
	if e != api.OK {
		return e
	}
	return f.cache.Put(n, sector.Wipe(s, size%api.SectorSize))
}

// cut is what is left of a file, and what is not.
type cut struct {
	inode  api.Inode
	tables []table // those that stay, and have lost pointers
	losses []loss
}

// cutOff works out how a file is made shorter.
func (f *Files) cutOff(i int, x api.Inode, size int) (cut, api.Errno) {
	c := cut{inode: x}
	c.inode.Size = size
	gather := func(at int, sectors []int) {
		for _, n := range sectors {
			c.losses = append(c.losses, loss{n, at})
		}
	}
	p := pruning{files: f, from: (size + api.SectorSize - 1) / api.SectorSize, gather: gather}
	for _, b := range branches(&c.inode) {
		lost, e := p.prune(*b.pointer, b.height, b.first)
		if e != api.OK {
			return cut{}, e
		}
		if len(lost) > 0 {
			*b.pointer = 0
			gather(i, lost)
		}
	}
	c.tables = p.tables
	return c, api.OK
}

// branch is a pointer in an inode, how many tables lie between it and the blocks, and the first block to which it leads.
type branch struct {
	pointer       *int
	height, first int
}

// branches are all of an inode.
func branches(x *api.Inode) []branch {
	var list []branch
	for k := range x.Direct {
		list = append(list, branch{&x.Direct[k], 0, k})
	}
	return append(list, branch{&x.Single, 1, api.Direct}, branch{&x.Double, 2, api.Direct + api.PerSector})
}

// pruning takes away what begins at a block or behind it.
type pruning struct {
	files  *Files
	from   int
	tables []table
	gather func(at int, sectors []int)
}

// prune goes through what hangs at a sector, and tells what must be given up where the pointer to it stands: nothing, if it stays.
func (p *pruning) prune(n, height, first int) ([]int, api.Errno) {
	if n == 0 || height == 0 && first < p.from {
		return nil, api.OK
	}
	if height == 0 {
		return []int{n}, api.OK
	}
	t, e := p.files.table(n)
	if e != api.OK {
		return nil, e
	}
	var lost []int
	for k, below := range t.pointers {
		some, e := p.prune(below, height-1, first+k*span(height))
		if e != api.OK {
			return nil, e
		}
		if len(some) > 0 {
			t.pointers[k] = 0
			lost = append(lost, some...)
		}
	}
	if t.pointers == (api.Pointers{}) {
		return append(lost, n), api.OK
	}
	if len(lost) > 0 {
		p.tables = append(p.tables, t)
		p.gather(n, lost)
	}
	return nil, api.OK
}

// span tells to how many blocks each pointer of a table leads.
func span(height int) int {
	if height == 1 {
		return 1
	}
	return api.PerSector
}
