package file

import (
	"slices"

	"breakwater/api"
)

// loss is a sector that is given up, and the one that must land ahead of its being free.
type loss struct{ sector, at int }

// giveUp lets a sector be free later, and not land any more.
func (f *Files) giveUp(l loss) api.Errno {
	if e := f.cache.Drop(l.sector); e != api.OK {
		return e
	}
	return f.release(l)
}

// release lets a sector be free later.
func (f *Files) release(l loss) api.Errno {
	if e := f.cache.Mark(l.at, l.sector); e != api.OK {
		return e
	}
	return f.space.Later(l.sector)
}

// Free gives an inode up, and all that it has.
func (f *Files) Free(i int, after ...int) api.Errno {
	if i == api.Root {
		return api.ErrFileInode
	}
	x, e := f.made(i)
	if e != api.OK {
		return e
	}
	if e := f.allPlaces(after); e != api.OK {
		return e
	}
	own, e := f.own(x)
	if e != api.OK {
		return e
	}
	release := f.giveUp
	if x.Kind == api.KindDir {
		// Others may wait for what a directory's slots say: they land, and the inode behind them. (Those that are not dirty the cache passes over.)
		release = f.release
		after = slices.Concat(after, own)
	}
	if e := f.cache.Put(i, api.Sector{}, after...); e != api.OK {
		return e
	}
	if e := each(own, func(n int) api.Errno { return release(loss{n, i}) }); e != api.OK {
		return e
	}
	return f.space.FreeInode(i)
}
