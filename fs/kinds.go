package fs

import "breakwater/api"

func (m mounted) create(t task) (api.Answer, api.Errno) { return m.makeOne(t, api.KindFile) }

func (m mounted) mkdir(t task) (api.Answer, api.Errno) { return m.makeOne(t, api.KindDir) }

// makeOne makes a file or a directory.
func (m mounted) makeOne(t task, kind int) (api.Answer, api.Errno) {
	at, e := m.walkToLast(t.names)
	if e != api.OK {
		return api.Answer{}, e
	}
	i, e := m.Make(at.dir, at.name, kind, t.Made)
	if e != api.OK {
		return api.Answer{}, e
	}
	s, e := m.Stat(i)
	return api.Answer{Stat: s}, e
}

func (m mounted) link(t task) (api.Answer, api.Errno) {
	i, e := m.walk(t.names)
	if e != api.OK {
		return api.Answer{}, e
	}
	at, e := m.walkToLast(t.toNames)
	if e != api.OK {
		return api.Answer{}, e
	}
	return api.Answer{}, m.Link(i, at.dir, at.name)
}

func (m mounted) unlink(t task) (api.Answer, api.Errno) {
	at, e := m.walkToLast(t.names)
	if e != api.OK {
		return api.Answer{}, e
	}
	return api.Answer{}, m.Unlink(at.dir, at.name)
}

func (m mounted) rmdir(t task) (api.Answer, api.Errno) {
	at, e := m.walkToLast(t.names)
	if e != api.OK {
		return api.Answer{}, e
	}
	return api.Answer{}, m.Rmdir(at.dir, at.name)
}

func (m mounted) rename(t task) (api.Answer, api.Errno) {
	from, e := m.walkToLast(t.names)
	if e != api.OK {
		return api.Answer{}, e
	}
	to, e := m.walkToLast(t.toNames)
	if e != api.OK {
		return api.Answer{}, e
	}
	return api.Answer{}, m.Rename(from.dir, from.name, to.dir, to.name)
}

func (m mounted) write(t task) (api.Answer, api.Errno) {
	i, e := m.walk(t.names)
	if e != api.OK {
		return api.Answer{}, e
	}
	return api.Answer{}, m.Files().Write(i, t.Off, t.Data)
}

func (m mounted) truncate(t task) (api.Answer, api.Errno) {
	i, e := m.walk(t.names)
	if e != api.OK {
		return api.Answer{}, e
	}
	return api.Answer{}, m.Files().Truncate(i, t.Off)
}

func (m mounted) read(t task) (api.Answer, api.Errno) {
	i, e := m.walk(t.names)
	if e != api.OK {
		return api.Answer{}, e
	}
	data, e := m.Files().Read(i, t.Off, t.Len)
	return api.Answer{Data: data}, e
}

func (m mounted) stat(t task) (api.Answer, api.Errno) {
	i, e := m.walk(t.names)
	if e != api.OK {
		return api.Answer{}, e
	}
	s, e := m.Stat(i)
	return api.Answer{Stat: s}, e
}

func (m mounted) list(t task) (api.Answer, api.Errno) {
	i, e := m.walk(t.names)
	if e != api.OK {
		return api.Answer{}, e
	}
	entries, e := m.List(i)
	return api.Answer{Entries: entries}, e
}

func (m mounted) sync(task) (api.Answer, api.Errno) { return api.Answer{}, m.Cache().Sync() }

// fsync is of files alone: those beneath would take a directory, too.
func (m mounted) fsync(t task) (api.Answer, api.Errno) {
	i, e := m.walk(t.names)
	if e != api.OK {
		return api.Answer{}, e
	}
	yes, e := m.isDirectory(i)
	if e != api.OK {
		return api.Answer{}, e
	}
	if yes {
		return api.Answer{}, api.ErrFileKind
	}
	return api.Answer{}, m.Files().Fsync(i)
}

// flush takes any number: whoever picks need not know how many sectors there are.
func (m mounted) flush(t task) (api.Answer, api.Errno) {
	yes, e := m.Cache().Flush(t.Pick)
	if e == api.ErrCachePlace {
		return api.Answer{}, api.OK
	}
	return api.Answer{Landed: yes}, e
}
