package tree

import "breakwater/api"

// Unlink takes a file's name away.
func (t *Tree) Unlink(d int, name string) api.Errno {
	a, e := t.find(d, name)
	if e != api.OK {
		return e
	}
	x, e := t.files.Inode(a.ino)
	if e != api.OK {
		return e
	}
	if x.Kind == api.KindDir {
		return api.ErrFileKind
	}
	return t.leave(a.ino, a.place)
}

// Rmdir takes an empty directory away.
func (t *Tree) Rmdir(d int, name string) api.Errno {
	a, e := t.find(d, name)
	if e != api.OK {
		return e
	}
	slots, e := t.emptySlots(a.ino)
	if e != api.OK {
		return e
	}
	// A file that was moved out of it is found here till its new name can be seen: so these land first.
	return t.leave(a.ino, a.place, slots...)
}

// emptySlots are the sectors of a directory's slots, if it is one, and all of these are empty. (Those that are not dirty the cache passes over.)
func (t *Tree) emptySlots(d int) ([]int, api.Errno) {
	slots, e := t.dirs.Slots(d)
	if e != api.OK {
		return nil, e
	}
	var sectors []int
	for k, s := range slots {
		if s != (api.Slot{}) {
			return nil, api.ErrTreeFull
		}
		n, e := t.dirs.Sector(d, k)
		if e != api.OK {
			return nil, e
		}
		if n != 0 {
			sectors = append(sectors, n)
		}
	}
	return sectors, api.OK
}
