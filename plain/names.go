package plain

import (
	"maps"
	"slices"

	"breakwater/api"
)

// spot is a directory, and a name that is or may be there.
type spot struct {
	dir  *node
	name string
}

// find is the inode that stands there, if one does.
func (s spot) find() (int, bool) { return s.dir.find(s.name) }

// walk goes from the root to what names lead to.
func (p *Plain) walk(names []string) (int, api.Errno) {
	i := api.Root
	for _, name := range names {
		if !p.nodes[i].isDirectory() {
			return 0, api.ErrDirKind
		}
		next, there := p.nodes[i].find(name)
		if !there {
			return 0, api.ErrDirNone
		}
		i = next
	}
	return i, api.OK
}

// walkToLast goes to the directory in which the last of names is or may be.
func (p *Plain) walkToLast(names []string) (spot, api.Errno) {
	if len(names) == 0 {
		return spot{}, api.ErrTreeRoot
	}
	last := len(names) - 1
	d, e := p.walk(names[:last])
	if e != api.OK {
		return spot{}, e
	}
	if !p.nodes[d].isDirectory() {
		return spot{}, api.ErrDirKind
	}
	return spot{p.nodes[d], names[last]}, api.OK
}

// place is the least one of a directory, if it may have that.
func (p *Plain) place(d *node) (int, api.Errno) {
	k := d.leastPlace()
	if k == api.MaxBlocks {
		return 0, api.ErrDirFull
	}
	if !p.hasRoom(d, k, k) {
		return 0, api.ErrSpaceBlocks
	}
	return k, api.OK
}

// lose lets an inode have one entry less; it is in use as long as it has one.
func (p *Plain) lose(i int) {
	p.nodes[i].links--
	if p.nodes[i].links == 0 {
		delete(p.nodes, i)
	}
}

// freeInode is the least one that is not in use; there is one.
func (p *Plain) freeInode() int {
	i := api.Root
	for p.nodes[i] != nil {
		i++
	}
	return i
}

// makeOne makes a file or a directory.
func (p *Plain) makeOne(names []string, kind, made int) api.Answer {
	at, e := p.walkToLast(names)
	if e != api.OK {
		return api.Answer{Code: e}
	}
	if _, there := at.find(); there {
		return api.Answer{Code: api.ErrDirThere}
	}
	if len(p.nodes) == p.inodes {
		return api.Answer{Code: api.ErrSpaceInodes}
	}
	k, e := p.place(at.dir)
	if e != api.OK {
		return api.Answer{Code: e}
	}
	i := p.freeInode()
	p.nodes[i] = newNode(kind, made)
	at.dir.enter(k, at.name, i)
	return api.Answer{Stat: p.stat(i)}
}

// link gives a file one more name.
func (p *Plain) link(names, to []string) api.Errno {
	i, e := p.walk(names)
	if e != api.OK {
		return e
	}
	at, e := p.walkToLast(to)
	if e != api.OK {
		return e
	}
	n := p.nodes[i]
	if _, there := at.find(); there {
		return api.ErrDirThere
	}
	if n.isDirectory() {
		return api.ErrFileKind
	}
	if n.links == api.MaxLinks {
		return api.ErrTreeLinks
	}
	k, e := p.place(at.dir)
	if e != api.OK {
		return e
	}
	n.links++
	at.dir.enter(k, at.name, i)
	return api.OK
}

// unlink takes a file's name away.
func (p *Plain) unlink(names []string) api.Errno {
	at, e := p.walkToLast(names)
	if e != api.OK {
		return e
	}
	i, there := at.find()
	if !there {
		return api.ErrDirNone
	}
	if p.nodes[i].isDirectory() {
		return api.ErrFileKind
	}
	at.dir.leave(at.name)
	p.lose(i)
	return api.OK
}

// rmdir takes an empty directory away.
func (p *Plain) rmdir(names []string) api.Errno {
	at, e := p.walkToLast(names)
	if e != api.OK {
		return e
	}
	i, there := at.find()
	if !there {
		return api.ErrDirNone
	}
	if !p.nodes[i].isDirectory() {
		return api.ErrDirKind
	}
	if len(p.nodes[i].names) > 0 {
		return api.ErrTreeFull
	}
	at.dir.leave(at.name)
	p.lose(i)
	return api.OK
}

// stat is what is told of an inode.
func (p *Plain) stat(i int) api.Stat {
	n := p.nodes[i]
	return api.Stat{Ino: i, Kind: n.kind, Links: n.links, Size: n.length(), Made: n.made, Blocks: n.tally().sectors}
}

// list are the entries of a directory, by rising names.
func (p *Plain) list(d *node) []api.Entry {
	var entries []api.Entry
	for _, name := range slices.Sorted(maps.Keys(d.names)) {
		i := d.slots[d.names[name]]
		entries = append(entries, api.Entry{Name: name, Ino: i, Kind: p.nodes[i].kind})
	}
	return entries
}
