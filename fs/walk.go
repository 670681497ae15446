package fs

import "breakwater/api"

// spot is a directory, and a name that is or may be there.
type spot struct {
	dir  int
	name string
}

// walk goes from the root to what names lead to.
func (m mounted) walk(names []string) (int, api.Errno) {
	i := api.Root
	for _, name := range names {
		next, e := m.Find(i, name)
		if e != api.OK {
			return 0, e
		}
		i = next
	}
	return i, api.OK
}

// walkToLast goes to the directory in which the last of names is or may be.
func (m mounted) walkToLast(names []string) (spot, api.Errno) {
	if len(names) == 0 {
		return spot{}, api.ErrTreeRoot
	}
	last := len(names) - 1
	d, e := m.walk(names[:last])
	if e != api.OK {
		return spot{}, e
	}
	yes, e := m.isDirectory(d)
	if e != api.OK {
		return spot{}, e
	}
	if !yes {
		return spot{}, api.ErrDirKind
	}
	return spot{d, names[last]}, api.OK
}

// isDirectory tells whether an inode is one.
func (m mounted) isDirectory(i int) (bool, api.Errno) {
	x, e := m.Files().Inode(i)
	return x.Kind == api.KindDir, e
}
