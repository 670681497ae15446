package tree

import (
	"breakwater/api"
	"breakwater/path"
)

// Rename gives a file or directory another name in the place of one.
func (t *Tree) Rename(from int, old string, to int, name string) api.Errno {
	a, e := t.find(from, old)
	if e != api.OK {
		return e
	}
	if e := path.Check(name); e != api.OK {
		return e
	}
	if from == to && old == name {
		return api.OK
	}
	b, e := t.find(to, name)
	if e != api.OK && e != api.ErrDirNone {
		return e
	}
	there := e == api.OK
	x, e := t.files.Inode(a.ino)
	if e != api.OK {
		return e
	}
	switch {
	case there && x.Kind == api.KindDir:
		return api.ErrDirThere
	case there:
		return t.replace(a, x, b, name)
	case x.Kind == api.KindDir:
		return t.moveDirectory(a, x, to, name)
	default:
		return t.moveFile(a, x, to, name)
	}
}

// moveDirectory is Rename of a directory. It is all done at once: no other call meets a directory with two entries.
func (t *Tree) moveDirectory(a entry, x api.Inode, to int, name string) api.Errno {
	if t.isWithin(to, a.ino) {
		return api.ErrTreeLoop
	}
	p, e := t.room(to)
	if e != api.OK {
		return e
	}
	if e := t.cache.Sync(); e != api.OK {
		return e
	}
	x.Links = 1 // a directory has one entry, whatever it told
	if e := t.move(a, x, p, name); e != api.OK {
		return e
	}
	if e := t.cache.Sync(); e != api.OK {
		return e
	}
	return t.files.Settle()
}

// moveFile is Rename of a file to a name that is not there.
func (t *Tree) moveFile(a entry, x api.Inode, to int, name string) api.Errno {
	if x.Links == api.MaxLinks {
		return api.ErrTreeLinks
	}
	p, e := t.room(to)
	if e != api.OK {
		return e
	}
	return t.move(a, x, p, name)
}

// replace is Rename of a file to a name that is there: b's slot names it from then on.
func (t *Tree) replace(a entry, x api.Inode, b entry, name string) api.Errno {
	y, e := t.files.Inode(b.ino)
	if e != api.OK {
		return e
	}
	if y.Kind == api.KindDir {
		return api.ErrDirThere
	}
	if a.ino == b.ino {
		return api.OK
	}
	if x.Links == api.MaxLinks {
		return api.ErrTreeLinks
	}
	if e := t.files.Ensure(0); e != api.OK {
		return e
	}
	kept, e := t.kept(b.ino, b.place)
	if e != api.OK {
		return e
	}
	if e := t.move(a, x, b.place, name, kept...); e != api.OK {
		return e
	}
	return t.lose(b.ino, b.place)
}

// move lets an inode be named at another place, and then no more at the one it was. In between it has one link more.
func (t *Tree) move(a entry, x api.Inode, p api.Place, name string, after ...int) api.Errno {
	if e := t.enter(a.ino, x, p, name, after...); e != api.OK {
		return e
	}
	return t.leave(a.ino, a.place)
}
