package tree

import (
	"slices"

	"breakwater/api"
	"breakwater/path"
)

// entry is where one stands, and the inode that it names.
type entry struct {
	place api.Place
	ino   int
}

// find finds a name.
func (t *Tree) find(d int, name string) (entry, api.Errno) {
	k, i, e := t.dirs.Find(d, name)
	if e != api.OK {
		return entry{}, e
	}
	return entry{api.Place{Dir: d, Slot: k}, i}, api.OK
}

// refuseName tells why there can be no new entry of this name, if so.
func (t *Tree) refuseName(d int, name string) api.Errno {
	if e := path.Check(name); e != api.OK {
		return e
	}
	switch _, e := t.find(d, name); e {
	case api.OK:
		return api.ErrDirThere
	case api.ErrDirNone:
		return api.OK
	default:
		return e
	}
}

// room is the place for a new entry, and sees to it that it can be laid there.
func (t *Tree) room(d int) (api.Place, api.Errno) {
	k, need, e := t.dirs.Place(d)
	if e != api.OK {
		return api.Place{}, e
	}
	if e := t.files.Ensure(need); e != api.OK {
		return api.Place{}, e
	}
	return api.Place{Dir: d, Slot: k}, api.OK
}

// enter lets a name for an inode stand at a place. The inode counts it ahead of its being seen.
func (t *Tree) enter(i int, x api.Inode, p api.Place, name string, after ...int) api.Errno {
	x.Links++
	if e := t.files.Put(i, x); e != api.OK {
		return e
	}
	if e := t.dirs.Set(p.Dir, p.Slot, api.Slot{Ino: i, Name: name}, append([]int{i}, after...)...); e != api.OK {
		return e
	}
	t.addPlace(i, p)
	return api.OK
}

// leave takes an entry away, when all others of its inode can be seen, and behind what else is told.
func (t *Tree) leave(i int, p api.Place, after ...int) api.Errno {
	kept, e := t.kept(i, p)
	if e != api.OK {
		return e
	}
	if e := t.dirs.Set(p.Dir, p.Slot, api.Slot{}, slices.Concat(kept, after)...); e != api.OK {
		return e
	}
	return t.lose(i, p)
}

// lose lets an inode be without the entry at a place, where something else was set. It counts that when the disk has it.
func (t *Tree) lose(i int, p api.Place) api.Errno {
	s, e := t.dirs.Sector(p.Dir, p.Slot)
	if e != api.OK {
		return e
	}
	t.dropPlace(i, p)
	if len(t.places[i]) == 0 {
		return t.files.Free(i, s)
	}
	x, e := t.files.Inode(i)
	if e != api.OK {
		return e
	}
	x.Links--
	return t.files.Put(i, x, s)
}
