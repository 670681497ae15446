package tree_test

import (
	"slices"
	"testing"

	"breakwater/api"
	"breakwater/cache"
	"breakwater/file"
)

// The kinds of deeds that are played.
const (
	doMake = iota
	doLink
	doUnlink
	doRmdir
	doRename
	doWrite    // a block of a file
	doTruncate // a file, to nothing
	doFsync
	doFlush
	doSync
)

// deed is one that is played on a tree.
type deed struct {
	kind        int
	i, d, to    int
	name, other string
	node, made  int // what is made, and when
}

// fill is a block whose bytes tell the file's making.
func fill(made int) []byte { return slices.Repeat([]byte{byte(1 + made%255)}, 128) }

// below does what is done without names.
func (k deed) below(c *cache.Cache, f *file.Files) api.Errno {
	switch k.kind {
	case doWrite:
		x, e := f.Inode(k.i)
		if e != api.OK {
			return e
		}
		return f.Write(k.i, 128*k.d, fill(x.Made))
	case doTruncate:
		return f.Truncate(k.i, 0)
	case doFsync:
		return f.Fsync(k.i)
	case doSync:
		return c.Sync()
	}
	_, e := c.Flush(k.i)
	return e
}

// of does it.
func (k deed) of(r *rig) (int, api.Errno) {
	switch k.kind {
	case doMake:
		return r.x.Make(k.d, k.name, k.node, k.made)
	case doLink:
		return 0, r.x.Link(k.i, k.d, k.name)
	case doUnlink:
		return 0, r.x.Unlink(k.d, k.name)
	case doRmdir:
		return 0, r.x.Rmdir(k.d, k.name)
	case doRename:
		return 0, r.x.Rename(k.d, k.name, k.to, k.other)
	}
	return 0, k.below(r.x.Cache(), r.x.Files())
}

// ofPlain does it word by word.
func (k deed) ofPlain(p *plain) (int, api.Errno) {
	switch k.kind {
	case doMake:
		return p.make(k.d, k.name, k.node, k.made)
	case doLink:
		return 0, p.link(k.i, k.d, k.name)
	case doUnlink:
		return 0, p.unlink(k.d, k.name)
	case doRmdir:
		return 0, p.rmdir(k.d, k.name)
	case doRename:
		return 0, p.rename(k.d, k.name, k.to, k.other)
	}
	return 0, k.below(p.c, p.f)
}

// ofMemory does it in memory.
func (k deed) ofMemory(m *memory) (int, api.Errno) {
	switch k.kind {
	case doMake:
		return m.make(k.d, k.name, k.node, k.made)
	case doLink:
		return 0, m.link(k.i, k.d, k.name)
	case doUnlink:
		return 0, m.unlink(k.d, k.name)
	case doRmdir:
		return 0, m.rmdir(k.d, k.name)
	case doRename:
		return 0, m.rename(k.d, k.name, k.to, k.other)
	case doWrite:
		return 0, m.write(k.i, k.d)
	case doTruncate:
		return 0, m.empty(k.i)
	case doFsync:
		if m.nodes[k.i] == nil {
			return 0, api.ErrFileInode
		}
	}
	return 0, api.OK
}

// player chooses deeds: few names and inodes, so that they meet.
type player struct {
	next  func(int) int
	names int // how many are played
	made  int
}

func (p *player) one(list []int) int { return list[p.next(len(list))] }

// name is one, now and then one that may not be.
func (p *player) name() string {
	if p.next(40) == 0 {
		return badNames()[p.next(len(badNames()))]
	}
	return count(p.next(p.names))
}

// directory is one that is there, now and then something else.
func (p *player) directory(m *memory) int {
	if p.next(40) == 0 {
		return p.next(m.inodes+4) - 1
	}
	return p.one(slices.DeleteFunc(m.inUse(), func(i int) bool { return m.nodes[i].kind != api.KindDir }))
}

// entry is one that is there, if the directory has any.
func (p *player) entry(m *memory, d int) string {
	if n := m.nodes[d]; n != nil && p.next(10) > 0 {
		if list := m.list(d); n.kind == api.KindDir && len(list) > 0 {
			return list[p.next(len(list))].Name
		}
	}
	return p.name()
}

// some is a deed.
func (p *player) some(m *memory, c *cache.Cache) deed {
	d, to := p.directory(m), p.directory(m)
	switch kind := p.next(40); {
	case kind < 9:
		p.made++
		return deed{kind: doMake, d: d, name: p.name(), node: 1 + p.next(3)/2, made: p.made}
	case kind < 12:
		return deed{kind: doLink, i: p.one(m.inUse()), d: d, name: p.name()}
	case kind < 16:
		return deed{kind: doUnlink, d: d, name: p.entry(m, d)}
	case kind < 19:
		return deed{kind: doRmdir, d: d, name: p.entry(m, d)}
	case kind < 23:
		return deed{kind: doRename, d: d, name: p.entry(m, d), to: to, other: p.name()}
	case kind < 26:
		return deed{kind: doRename, d: d, name: p.entry(m, d), to: to, other: p.entry(m, to)}
	case kind < 29:
		return deed{kind: doWrite, i: p.one(m.inUse()), d: p.one([]int{0, 1, 2, 12, 44})}
	case kind == 29:
		return deed{kind: doTruncate, i: p.one(m.inUse())}
	case kind == 30:
		return deed{kind: doFsync, i: p.one(m.inUse())}
	case kind == 31 && p.next(4) == 0:
		return deed{kind: doSync}
	}
	if list := c.Eligible(); len(list) > 0 {
		return deed{kind: doFlush, i: p.one(list)}
	}
	return deed{kind: doFlush, i: p.next(8)}
}

// size is that of a disk on which is played.
type size struct{ sectors, inodes, names int }

// sizes are some of each kind: with much room and with little, with many names, so that there are tables.
func sizes() []size {
	return []size{{60, 8, 4}, {24, 6, 3}, {16, 7, 3}, {120, 40, 12}, {200, 100, 80}, {40, 4, 20}}
}

func TestWordByWord(t *testing.T) { // P14.3 to P14.7: the answers, what is dirty and must wait, what has landed, deed by deed
	for seed := range 120 {
		size := sizes()[seed%6]
		p := &player{steps(uint32(seed)), size.names, 0}
		r, words, m := rigOf(t, size.sectors, size.inodes), plainOf(t, size.sectors, size.inodes), memoryOf(size.sectors, size.inodes)
		for at := range 120 {
			k := p.some(m, r.x.Cache())
			i, e := k.of(r)
			j, f := k.ofPlain(words)
			l, g := k.ofMemory(m)
			if i != j || e != f || i != l || e != g {
				t.Fatalf("seed %d, deed %d, %+v: %d, %d; word by word %d, %d; in memory %d, %d", seed, at, k, i, e, j, f, l, g)
			}
			if !r.state().equals(words.state()) {
				t.Fatalf("seed %d, deed %d, %+v: what became of it is another: %v, want %v", seed, at, k, r.x.Cache().Edges(), words.c.Edges())
			}
		}
	}
}

func TestAsInMemory(t *testing.T) { // P14.8: Find and List tell what was made and not taken away; Links are the places
	for seed := range 60 {
		size := sizes()[seed%6]
		p := &player{steps(uint32(5000 + seed)), size.names, 0}
		r, m := rigOf(t, size.sectors, size.inodes), memoryOf(size.sectors, size.inodes)
		for at := range 120 {
			k := p.some(m, r.x.Cache())
			i, e := k.of(r)
			if j, f := k.ofMemory(m); i != j || e != f {
				t.Fatalf("seed %d, deed %d, %+v: %d, %d; want %d, %d", seed, at, k, i, e, j, f)
			}
			r.holds(m, size.names)
			if t.Failed() {
				t.Fatalf("seed %d, deed %d, %+v", seed, at, k)
			}
		}
	}
}

// holds holds a tree to one in memory.
func (r *rig) holds(m *memory, names int) {
	r.Helper()
	for i := range m.inodes + 2 {
		if m.nodes[i] == nil {
			r.gone(i)
			continue
		}
		r.stat(m.stat(i))
		if m.nodes[i].kind != api.KindDir {
			r.missing(i, count(0), api.ErrDirKind)
			continue
		}
		r.list(i, m.list(i)...)
		for k := range names {
			if s, e := m.find(i, count(k)); e == api.OK {
				r.found(i, count(k), s.Ino)
			} else {
				r.missing(i, count(k), e)
			}
		}
	}
	room := r.x.Files().Room()
	if room.Blocks != m.data-m.used() || room.Inodes != m.inodes-len(m.nodes) {
		r.Errorf("Room: %+v; %d sectors and %d inodes are in use", room, m.used(), len(m.nodes))
	}
	if list := r.x.Cache().Dirty(); len(list) > 0 && len(r.x.Cache().Eligible()) == 0 {
		r.Errorf("of %v none may land", list)
	}
}
