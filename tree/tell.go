package tree

import (
	"slices"
	"strings"

	"breakwater/api"
)

// Find finds a name.
func (t *Tree) Find(d int, name string) (int, api.Errno) {
	_, i, e := t.dirs.Find(d, name)
	return i, e
}

// List tells a directory's entries.
func (t *Tree) List(d int) ([]api.Entry, api.Errno) {
	slots, e := t.dirs.Slots(d)
	if e != api.OK {
		return nil, e
	}
	var list []api.Entry
	for _, s := range slots {
		if s == (api.Slot{}) {
			continue
		}
		x, e := t.files.Inode(s.Ino)
		if e != api.OK {
			return nil, e
		}
		list = append(list, api.Entry{Name: s.Name, Ino: s.Ino, Kind: x.Kind})
	}
	slices.SortStableFunc(list, func(a, b api.Entry) int { return strings.Compare(a.Name, b.Name) })
	return list, api.OK
}

// Stat tells of an inode.
func (t *Tree) Stat(i int) (api.Stat, api.Errno) {
	x, e := t.files.Inode(i)
	if e != api.OK {
		return api.Stat{}, e
	}
	n, e := t.files.Count(i)
	if e != api.OK {
		return api.Stat{}, e
	}
	return api.Stat{Ino: i, Kind: x.Kind, Links: x.Links, Size: x.Size, Made: x.Made, Blocks: n}, api.OK
}
