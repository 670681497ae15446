package file

import (
	"breakwater/api"
	"breakwater/blocks"
)

// Lay lays blocks.
func (f *Files) Lay(i, size int, list ...api.Block) api.Errno {
	x, e := f.made(i)
	if e != api.OK {
		return e
	}
	if e := f.ready(x, size, list); e != api.OK {
		return e
	}
	l := laying{files: f, inode: x}
	if e := each(list, l.lay); e != api.OK {
		return e
	}
	l.inode.Size = max(x.Size, size)
	if l.inode == x {
		return api.OK
	}
	return f.Put(i, l.inode, l.entered...)
}

// ready tells why nothing may be laid, if so, and else sees to it that there is room.
func (f *Files) ready(x api.Inode, size int, list []api.Block) api.Errno {
	if size < 0 || size > api.MaxFile || x.Kind == api.KindDir && size%api.SectorSize != 0 {
		return api.ErrFileRange
	}
	index := make([]int, 0, len(list))
	for _, b := range list {
		if _, _, _, e := blocks.Way(b.Index); e != api.OK {
			return e
		}
		index = append(index, b.Index)
	}
	for _, b := range list {
		if e := f.allPlaces(b.After); e != api.OK {
			return e
		}
	}
	need, e := blocks.Need(f.cache, x, index...)
	if e != api.OK {
		return e
	}
	return f.Ensure(need)
}

// laying is a Lay that is under way. Its inode is put last, when all have come into it.
type laying struct {
	files   *Files
	inode   api.Inode
	entered []int // sectors that came into the inode, in this order
}

// lay lays a block.
func (l *laying) lay(b api.Block) api.Errno {
	n, e := blocks.Find(l.files.cache, l.inode, b.Index)
	if e != api.OK {
		return e
	}
	if n != 0 {
		return l.files.cache.Put(n, b.Data, b.After...)
	}
	n, e = l.files.space.TakeBlock()
	if e != api.OK {
		return e
	}
	if e := l.files.cache.Put(n, b.Data, b.After...); e != api.OK {
		return e
	}
	return l.hang(n, b.Index)
}

// hang lets a sector be that of a block which was a hole.
func (l *laying) hang(n, index int) api.Errno {
	depth, i, j, e := blocks.Way(index)
	if e != api.OK {
		return e
	}
	switch depth {
	case 0:
		return l.enter(n, &l.inode.Direct[i])
	case 1:
		return l.enter(n, &l.inode.Single, i)
	}
	return l.enter(n, &l.inode.Double, i, j)
}

// enter lets a pointer to a sector stand at the end of a way, which begins with a pointer in the inode and goes on at places in tables. A table that is not there is taken, and entered in its turn, when it leads to what hangs below it.
func (l *laying) enter(n int, begin *int, places ...int) api.Errno {
	if len(places) == 0 {
		*begin = n
		l.entered = append(l.entered, n)
		return api.OK
	}
	last := len(places) - 1
	above, place := places[:last], places[last]
	at, e := l.follow(*begin, above)
	if e != api.OK {
		return e
	}
	t, e := l.orTaken(at)
	if e != api.OK {
		return e
	}
	t.pointers[place] = n
	t.after = []int{n}
	if e := l.files.putTable(t); e != api.OK {
		return e
	}
	if at != 0 {
		return api.OK
	}
	return l.enter(t.sector, begin, above...)
}

// follow is the sector at the end of a way, 0 if it ends ahead of that.
func (l *laying) follow(n int, places []int) (int, api.Errno) {
	for _, place := range places {
		if n == 0 {
			return 0, api.OK
		}
		t, e := l.files.table(n)
		if e != api.OK {
			return 0, e
		}
		n = t.pointers[place]
	}
	return n, api.OK
}

// orTaken is the table at a sector, or, if that is 0, a new one.
func (l *laying) orTaken(n int) (table, api.Errno) {
	if n != 0 {
		return l.files.table(n)
	}
	n, e := l.files.space.TakeBlock()
	return table{sector: n}, e
}
