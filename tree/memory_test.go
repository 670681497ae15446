package tree_test

import (
	"cmp"
	"maps"
	"slices"

	"breakwater/api"
	"breakwater/path"
)

// memory is a tree without a disk: what was made and not taken away.
type memory struct {
	data, inodes int // how many sectors and inodes there are
	nodes        map[int]*node
}

// node is a file or a directory.
type node struct {
	kind, made int
	slots      []api.Slot
	blocks     map[int]int // indexes of a file's
	size       int
}

func memoryOf(sectors, inodes int) *memory {
	return &memory{sectors - 1 - inodes, inodes, map[int]*node{1: {kind: api.KindDir}}}
}

// indexes are those of the blocks that are there: of a directory those of all slots.
func (n *node) indexes() []int {
	list := slices.Collect(maps.Keys(n.blocks))
	for k := range n.slots {
		list = append(list, k)
	}
	return list
}

// sectors tells how many it has, tables too.
func (n *node) sectors() int {
	tables := map[int]int{} // -1: the single one, -2: the double one, others by their place there
	for _, k := range n.indexes() {
		switch {
		case k >= 44:
			tables[-2]++
			tables[(k-44)/32]++
		case k >= 12:
			tables[-1]++
		}
	}
	return len(n.indexes()) + len(tables)
}

// used tells how many sectors all have.
func (m *memory) used() int {
	sum := 0
	for _, n := range m.nodes {
		sum += n.sectors()
	}
	return sum
}

// links are the entries of an inode.
func (m *memory) links(i int) int {
	if i == 1 {
		return 1
	}
	sum := 0
	for _, n := range m.nodes {
		for _, s := range n.slots {
			if s.Ino == i {
				sum++
			}
		}
	}
	return sum
}

// find is the slot that has a name in a directory.
func (m *memory) find(d int, name string) (*api.Slot, api.Errno) {
	n := m.nodes[d]
	if n == nil {
		return nil, api.ErrFileInode
	}
	if n.kind != api.KindDir {
		return nil, api.ErrDirKind
	}
	for k := range n.slots {
		if n.slots[k].Ino != 0 && n.slots[k].Name == name {
			return &n.slots[k], api.OK
		}
	}
	return nil, api.ErrDirNone
}

// fresh tells why a name may not be new.
func (m *memory) fresh(d int, name string) api.Errno {
	if e := path.Check(name); e != api.OK {
		return e
	}
	_, e := m.find(d, name)
	switch e {
	case api.OK:
		return api.ErrDirThere
	case api.ErrDirNone:
		return api.OK
	}
	return e
}

// slotFor is the least empty slot of a directory, which may be a new one.
func (m *memory) slotFor(d int) (*api.Slot, api.Errno) {
	n := m.nodes[d]
	for k := range n.slots {
		if n.slots[k].Ino == 0 {
			return &n.slots[k], api.OK
		}
	}
	if len(n.slots) == 1068 {
		return nil, api.ErrDirFull
	}
	n.slots = append(n.slots, api.Slot{})
	if m.used() > m.data {
		n.slots = n.slots[:len(n.slots)-1]
		return nil, api.ErrSpaceBlocks
	}
	return &n.slots[len(n.slots)-1], api.OK
}

func (m *memory) make(d int, name string, kind, made int) (int, api.Errno) {
	if kind != 1 && kind != 2 || made < 0 || made > 1<<40 {
		return 0, api.ErrArg
	}
	if e := m.fresh(d, name); e != api.OK {
		return 0, e
	}
	i := 1
	for m.nodes[i] != nil {
		i++
	}
	if i > m.inodes {
		return 0, api.ErrSpaceInodes
	}
	s, e := m.slotFor(d)
	if e != api.OK {
		return 0, e
	}
	*s = api.Slot{Ino: i, Name: name}
	m.nodes[i] = &node{kind: kind, made: made, blocks: map[int]int{}}
	return i, api.OK
}

func (m *memory) link(i, d int, name string) api.Errno {
	if e := m.fresh(d, name); e != api.OK {
		return e
	}
	switch {
	case m.nodes[i] == nil:
		return api.ErrFileInode
	case m.nodes[i].kind == api.KindDir:
		return api.ErrFileKind
	case m.links(i) == 100:
		return api.ErrTreeLinks
	}
	s, e := m.slotFor(d)
	if e == api.OK {
		*s = api.Slot{Ino: i, Name: name}
	}
	return e
}

// drop lets an inode go that no entry names any more.
func (m *memory) drop(i int) {
	if m.links(i) == 0 {
		delete(m.nodes, i)
	}
}

func (m *memory) unlink(d int, name string) api.Errno {
	s, e := m.find(d, name)
	if e != api.OK {
		return e
	}
	i := s.Ino
	if m.nodes[i].kind == api.KindDir {
		return api.ErrFileKind
	}
	*s = api.Slot{}
	m.drop(i)
	return api.OK
}

func (m *memory) rmdir(d int, name string) api.Errno {
	s, e := m.find(d, name)
	if e != api.OK {
		return e
	}
	i := s.Ino
	if m.nodes[i].kind != api.KindDir {
		return api.ErrDirKind
	}
	for _, own := range m.nodes[i].slots {
		if own.Ino != 0 {
			return api.ErrTreeFull
		}
	}
	*s = api.Slot{}
	m.drop(i)
	return api.OK
}

// has tells whether a directory is another one, or lies in what that one has.
func (m *memory) has(i, d int) bool {
	if i == d {
		return true
	}
	return slices.ContainsFunc(m.nodes[i].slots, func(s api.Slot) bool {
		return s.Ino != 0 && m.nodes[s.Ino].kind == api.KindDir && m.has(s.Ino, d)
	})
}

func (m *memory) rename(from int, old string, to int, name string) api.Errno {
	s, e := m.find(from, old)
	if e != api.OK {
		return e
	}
	if e := path.Check(name); e != api.OK {
		return e
	}
	if from == to && old == name {
		return api.OK
	}
	q, e := m.find(to, name)
	if e != api.OK && e != api.ErrDirNone {
		return e
	}
	i, isDir := s.Ino, m.nodes[s.Ino].kind == api.KindDir
	switch {
	case q != nil && (isDir || m.nodes[q.Ino].kind == api.KindDir):
		return api.ErrDirThere
	case q != nil && q.Ino == i:
		return api.OK
	case isDir && m.has(i, to):
		return api.ErrTreeLoop
	case !isDir && m.links(i) == 100:
		return api.ErrTreeLinks
	case q == nil:
		if q, e = m.slotFor(to); e != api.OK {
			return e
		}
		s, _ = m.find(from, old) // a row of slots that grew may lie elsewhere
	}
	j := q.Ino
	*q = api.Slot{Ino: i, Name: name}
	*s = api.Slot{}
	if j != 0 {
		m.drop(j)
	}
	return api.OK
}

// write lets a block of a file be there.
func (m *memory) write(i, index int) api.Errno {
	n := m.nodes[i]
	if n == nil {
		return api.ErrFileInode
	}
	if n.kind == api.KindDir {
		return api.ErrFileKind
	}
	_, there := n.blocks[index]
	n.blocks[index] = 1
	if m.used() > m.data {
		if !there {
			delete(n.blocks, index)
		}
		return api.ErrSpaceBlocks
	}
	n.size = max(n.size, 128*index+128)
	return api.OK
}

// empty lets a file have no bytes.
func (m *memory) empty(i int) api.Errno {
	n := m.nodes[i]
	if n == nil {
		return api.ErrFileInode
	}
	if n.kind == api.KindDir {
		return api.ErrFileKind
	}
	clear(n.blocks)
	n.size = 0
	return api.OK
}

// list are the entries of a directory, by their names.
func (m *memory) list(d int) []api.Entry {
	var list []api.Entry
	for _, s := range m.nodes[d].slots {
		if s.Ino != 0 {
			list = append(list, api.Entry{Name: s.Name, Ino: s.Ino, Kind: m.nodes[s.Ino].kind})
		}
	}
	slices.SortFunc(list, func(a, b api.Entry) int { return cmp.Compare(a.Name, b.Name) })
	return list
}

func (m *memory) stat(i int) api.Stat {
	n := m.nodes[i]
	size := n.size
	if n.kind == api.KindDir {
		size = 128 * len(n.slots)
	}
	return api.Stat{Ino: i, Kind: n.kind, Links: m.links(i), Size: size, Made: n.made, Blocks: n.sectors()}
}

// inUse are all inodes, rising.
func (m *memory) inUse() []int { return slices.Sorted(maps.Keys(m.nodes)) }

// name is an entry by makings: where it stands, and what it names. (Each is made at a time of its own.)
type name struct {
	in   int
	name string
	of   int
}

// names are all entries.
func (m *memory) names() map[name]int {
	all := map[name]int{}
	for _, n := range m.nodes {
		for _, s := range n.slots {
			if s.Ino != 0 {
				all[name{n.made, s.Name, m.nodes[s.Ino].made}] = s.Ino
			}
		}
	}
	return all
}
