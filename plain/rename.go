package plain

import (
	"slices"

	"breakwater/api"
)

// rename gives a file or directory another name in the place of one.
func (p *Plain) rename(names, to []string) api.Errno {
	from, e := p.walkToLast(names)
	if e != api.OK {
		return e
	}
	at, e := p.walkToLast(to)
	if e != api.OK {
		return e
	}
	i, there := from.find()
	if !there {
		return api.ErrDirNone
	}
	if from == at {
		return api.OK
	}
	j, taken := at.find()
	isDirectory := p.nodes[i].isDirectory()
	switch {
	case taken && (isDirectory || p.nodes[j].isDirectory()):
		return api.ErrDirThere
	case isDirectory && isBelow(to, names):
		return api.ErrTreeLoop
	case taken && j == i:
		return api.OK
	case p.nodes[i].links == api.MaxLinks: // a directory has one
		return api.ErrTreeLinks
	case taken:
		p.replace(from, at, i, j)
		return api.OK
	}
	return p.move(from, at, i)
}

// isBelow tells whether a path leads on from another one: a directory has just one path, so what lies in it has that as its beginning.
func isBelow(names, top []string) bool {
	return len(names) > len(top) && slices.Equal(names[:len(top)], top)
}

// replace lets a file have another one's slot.
func (p *Plain) replace(from, at spot, i, j int) {
	at.dir.enter(at.dir.names[at.name], at.name, i)
	from.dir.leave(from.name)
	p.lose(j)
}

// move lets a file or directory have a name that is new. Its old slot is empty only then, and is not taken for it.
func (p *Plain) move(from, at spot, i int) api.Errno {
	k, e := p.place(at.dir)
	if e != api.OK {
		return e
	}
	at.dir.enter(k, at.name, i)
	from.dir.leave(from.name)
	return api.OK
}
