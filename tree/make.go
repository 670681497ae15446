package tree

import "breakwater/api"

// Make makes a file or a directory.
func (t *Tree) Make(d int, name string, kind, made int) (int, api.Errno) {
	if kind != api.KindFile && kind != api.KindDir || made < 0 || made > api.MaxMade {
		return 0, api.ErrArg
	}
	if e := t.refuseName(d, name); e != api.OK {
		return 0, e
	}
	if t.space.Room().Inodes == 0 {
		return 0, api.ErrSpaceInodes
	}
	p, e := t.room(d)
	if e != api.OK {
		return 0, e
	}
	// Taken last: what is refused shall not have taken one.
	i, e := t.space.TakeInode()
	if e != api.OK {
		return 0, e
	}
	if e := t.enter(i, api.Inode{Kind: kind, Made: made}, p, name); e != api.OK {
		return 0, e
	}
	return i, api.OK
}

// Link gives a file another name.
func (t *Tree) Link(i, d int, name string) api.Errno {
	if e := t.refuseName(d, name); e != api.OK {
		return e
	}
	x, e := t.files.Inode(i)
	if e != api.OK {
		return e
	}
	if x.Kind == api.KindDir {
		return api.ErrFileKind
	}
	if x.Links == api.MaxLinks {
		return api.ErrTreeLinks
	}
	p, e := t.room(d)
	if e != api.OK {
		return e
	}
	return t.enter(i, x, p, name)
}
