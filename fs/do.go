package fs

import (
	"breakwater/api"
	"breakwater/path"
)

// Do does an operation.
func (f *FS) Do(o api.Op) api.Answer {
	if f.dead {
		return api.Answer{Code: api.ErrFSDead}
	}
	a, e := f.on.do(o)
	if e != api.OK {
		f.dead = e == api.ErrDiskDown
		return api.Answer{Code: e}
	}
	return a
}

// do does it, if its form may be.
func (m mounted) do(o api.Op) (api.Answer, api.Errno) {
	k, e := kindOf(o)
	if e != api.OK {
		return api.Answer{}, e
	}
	t, e := taskOf(o, k.uses)
	if e != api.OK {
		return api.Answer{}, e
	}
	return k.do(m, t)
}

// kind is what operations of one kind use, and do.
type kind struct {
	uses uses
	do   func(mounted, task) (api.Answer, api.Errno)
}

// uses are the fields of an operation that one kind uses.
type uses struct{ path, to, off, len, data, made, pick bool }

// kinds gives them by their numbers; there is none at 0.
func kinds() []kind {
	return []kind{
		api.OpCreate:   {uses{path: true, made: true}, mounted.create},
		api.OpMkdir:    {uses{path: true, made: true}, mounted.mkdir},
		api.OpLink:     {uses{path: true, to: true}, mounted.link},
		api.OpUnlink:   {uses{path: true}, mounted.unlink},
		api.OpRmdir:    {uses{path: true}, mounted.rmdir},
		api.OpRename:   {uses{path: true, to: true}, mounted.rename},
		api.OpWrite:    {uses{path: true, off: true, data: true}, mounted.write},
		api.OpTruncate: {uses{path: true, off: true}, mounted.truncate},
		api.OpRead:     {uses{path: true, off: true, len: true}, mounted.read},
		api.OpStat:     {uses{path: true}, mounted.stat},
		api.OpList:     {uses{path: true}, mounted.list},
		api.OpSync:     {uses{}, mounted.sync},
		api.OpFsync:    {uses{path: true}, mounted.fsync},
		api.OpFlush:    {uses{pick: true}, mounted.flush},
	}
}

// kindOf is an operation's kind, if there is one that takes it as it is.
func kindOf(o api.Op) (kind, api.Errno) {
	all := kinds()
	if o.Kind < api.OpCreate || o.Kind >= len(all) {
		return kind{}, api.ErrFSOp
	}
	k := all[o.Kind]
	if !k.uses.allow(o) || o.Made < 0 || o.Made > api.MaxMade {
		return kind{}, api.ErrFSOp
	}
	return k, api.OK
}

// allow tells whether all fields that are not used are zero.
func (u uses) allow(o api.Op) bool {
	return (u.path || o.Path == "") &&
		(u.to || o.To == "") &&
		(u.off || o.Off == 0) &&
		(u.len || o.Len == 0) &&
		(u.data || len(o.Data) == 0) &&
		(u.made || o.Made == 0) &&
		(u.pick || o.Pick == 0)
}

// task is an operation, and the names that its paths say.
type task struct {
	api.Op
	names   []string
	toNames []string
}

// taskOf splits both paths ahead of any walk: a To that is no path is told ahead of a Path that leads nowhere.
func taskOf(o api.Op, u uses) (task, api.Errno) {
	t := task{Op: o}
	var e api.Errno
	if u.path {
		if t.names, e = path.Split(o.Path); e != api.OK {
			return task{}, e
		}
	}
	if u.to {
		if t.toNames, e = path.Split(o.To); e != api.OK {
			return task{}, e
		}
	}
	return t, api.OK
}
