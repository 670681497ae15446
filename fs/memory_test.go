package fs_test

import (
	"cmp"
	"maps"
	"slices"
	"strings"

	"breakwater/api"
	"breakwater/path"
)

// memory is a file system without a disk: what was made and not taken away.
type memory struct {
	data, inodes int // how many sectors and inodes there are
	nodes        map[int]*node
}

// node is a file or a directory.
type node struct {
	kind, made, size int
	slots            []api.Slot
	blocks           map[int]api.Sector // those that are there; of a directory without their bytes
}

func memoryOf(sectors, inodes int) *memory {
	return &memory{sectors - 1 - inodes, inodes, map[int]*node{1: {kind: api.KindDir, blocks: map[int]api.Sector{}}}}
}

// sectorsWith tells how many it would have, tables too, if these blocks were there as well.
func (n *node) sectorsWith(more ...int) int {
	there, tables := map[int]int{}, map[int]int{} // tables: -1 the single one, -2 the double one, others by their place there
	for _, k := range slices.AppendSeq(more, maps.Keys(n.blocks)) {
		there[k]++
		switch {
		case k >= 44:
			tables[-2]++
			tables[(k-44)/32]++
		case k >= 12:
			tables[-1]++
		}
	}
	return len(there) + len(tables)
}

// used tells how many sectors all have.
func (m *memory) used() int {
	sum := 0
	for _, n := range m.nodes {
		sum += n.sectorsWith()
	}
	return sum
}

// roomFor tells whether these blocks of a node may be there, too.
func (m *memory) roomFor(n *node, more ...int) bool {
	return m.used()-n.sectorsWith()+n.sectorsWith(more...) <= m.data
}

// links are the entries of an inode.
func (m *memory) links(i int) int {
	if i == 1 {
		return 1
	}
	sum := 0
	for _, n := range m.nodes {
		for _, s := range n.slots {
			if s.Ino == i {
				sum++
			}
		}
	}
	return sum
}

// find is the slot that has a name.
func (n *node) find(name string) int {
	return slices.IndexFunc(n.slots, func(s api.Slot) bool { return s.Ino != 0 && s.Name == name })
}

// walk goes from the root on.
func (m *memory) walk(names []string) (int, api.Errno) {
	i := 1
	for _, name := range names {
		if m.nodes[i].kind != api.KindDir {
			return 0, api.ErrDirKind
		}
		k := m.nodes[i].find(name)
		if k < 0 {
			return 0, api.ErrDirNone
		}
		i = m.nodes[i].slots[k].Ino
	}
	return i, api.OK
}

// last goes to the directory of the last name.
func (m *memory) last(names []string) (*node, string, api.Errno) {
	if len(names) == 0 {
		return nil, "", api.ErrTreeRoot
	}
	d, e := m.walk(names[:len(names)-1])
	if e != api.OK {
		return nil, "", e
	}
	if m.nodes[d].kind != api.KindDir {
		return nil, "", api.ErrDirKind
	}
	return m.nodes[d], names[len(names)-1], api.OK
}

// slotFor is the least empty slot of a directory, and sees to it that it is there.
func (m *memory) slotFor(d *node) (int, api.Errno) {
	k := slices.Index(d.slots, api.Slot{})
	if k < 0 {
		k = len(d.slots)
	}
	if k == 1068 {
		return 0, api.ErrDirFull
	}
	if !m.roomFor(d, k) {
		return 0, api.ErrSpaceBlocks
	}
	if k == len(d.slots) {
		d.slots = append(d.slots, api.Slot{})
		d.size = 128 * len(d.slots)
	}
	d.blocks[k] = api.Sector{}
	return k, api.OK
}

// drop lets an inode go that no entry names any more.
func (m *memory) drop(i int) {
	if m.links(i) == 0 {
		delete(m.nodes, i)
	}
}

// usedFields tells the letters of the fields that a kind uses.
func usedFields(kind int) string {
	return []string{"", "pm", "pm", "pt", "p", "p", "pt", "pod", "po", "pol", "p", "p", "", "p", "k"}[kind]
}

// formed tells the names of both paths, if an operation's form may be.
func formed(o api.Op) (names, to []string, e api.Errno) {
	if o.Kind < 1 || o.Kind > 14 {
		return nil, nil, api.ErrFSOp
	}
	uses := usedFields(o.Kind)
	for letter, zero := range map[string]bool{"p": o.Path == "", "t": o.To == "", "o": o.Off == 0, "l": o.Len == 0, "d": len(o.Data) == 0, "m": o.Made == 0, "k": o.Pick == 0} {
		if !zero && !strings.Contains(uses, letter) {
			return nil, nil, api.ErrFSOp
		}
	}
	if o.Made < 0 || o.Made > 1<<40 {
		return nil, nil, api.ErrFSOp
	}
	if strings.Contains(uses, "p") {
		if names, e = path.Split(o.Path); e != api.OK {
			return nil, nil, e
		}
	}
	if strings.Contains(uses, "t") {
		to, e = path.Split(o.To)
	}
	return names, to, e
}

// do does an operation.
func (m *memory) do(o api.Op) api.Answer {
	names, to, e := formed(o)
	if e != api.OK {
		return api.Answer{Code: e}
	}
	switch o.Kind {
	case api.OpCreate, api.OpMkdir:
		return m.make(o, names)
	case api.OpLink:
		return api.Answer{Code: m.link(names, to)}
	case api.OpUnlink, api.OpRmdir:
		return api.Answer{Code: m.remove(o.Kind, names)}
	case api.OpRename:
		return api.Answer{Code: m.rename(names, to)}
	case api.OpSync, api.OpFlush:
		return api.Answer{}
	}
	i, e := m.walk(names)
	if e != api.OK {
		return api.Answer{Code: e}
	}
	return m.ask(o, i)
}

func (m *memory) make(o api.Op, names []string) api.Answer {
	d, name, e := m.last(names)
	if e != api.OK {
		return api.Answer{Code: e}
	}
	if d.find(name) >= 0 {
		return api.Answer{Code: api.ErrDirThere}
	}
	i := 1
	for m.nodes[i] != nil {
		i++
	}
	if i > m.inodes {
		return api.Answer{Code: api.ErrSpaceInodes}
	}
	k, e := m.slotFor(d)
	if e != api.OK {
		return api.Answer{Code: e}
	}
	d.slots[k] = api.Slot{Ino: i, Name: name}
	m.nodes[i] = &node{kind: o.Kind, made: o.Made, blocks: map[int]api.Sector{}}
	return api.Answer{Stat: m.stat(i)}
}

func (m *memory) link(names, to []string) api.Errno {
	i, e := m.walk(names)
	if e != api.OK {
		return e
	}
	d, name, e := m.last(to)
	switch {
	case e != api.OK:
		return e
	case d.find(name) >= 0:
		return api.ErrDirThere
	case m.nodes[i].kind == api.KindDir:
		return api.ErrFileKind
	case m.links(i) == 100:
		return api.ErrTreeLinks
	}
	k, e := m.slotFor(d)
	if e == api.OK {
		d.slots[k] = api.Slot{Ino: i, Name: name}
	}
	return e
}

func (m *memory) remove(kind int, names []string) api.Errno {
	d, name, e := m.last(names)
	if e != api.OK {
		return e
	}
	k := d.find(name)
	if k < 0 {
		return api.ErrDirNone
	}
	i := d.slots[k].Ino
	isDir := m.nodes[i].kind == api.KindDir
	switch {
	case kind == api.OpUnlink && isDir:
		return api.ErrFileKind
	case kind == api.OpRmdir && !isDir:
		return api.ErrDirKind
	case slices.ContainsFunc(m.nodes[i].slots, func(s api.Slot) bool { return s.Ino != 0 }):
		return api.ErrTreeFull
	}
	d.slots[k] = api.Slot{}
	m.drop(i)
	return api.OK
}

// lies tells whether a directory is another one, or lies in what that one has.
func (m *memory) lies(d, in *node) bool {
	return d == in || slices.ContainsFunc(in.slots, func(s api.Slot) bool {
		return s.Ino != 0 && m.nodes[s.Ino].kind == api.KindDir && m.lies(d, m.nodes[s.Ino])
	})
}

func (m *memory) rename(names, to []string) api.Errno {
	d, old, e := m.last(names)
	if e != api.OK {
		return e
	}
	t, name, e := m.last(to)
	if e != api.OK {
		return e
	}
	p := d.find(old)
	if p < 0 {
		return api.ErrDirNone
	}
	if d == t && old == name {
		return api.OK
	}
	i, q, j := d.slots[p].Ino, t.find(name), 0
	if q >= 0 {
		j = t.slots[q].Ino
	}
	isDir := m.nodes[i].kind == api.KindDir
	switch {
	case j != 0 && (isDir || m.nodes[j].kind == api.KindDir):
		return api.ErrDirThere
	case j == i:
		return api.OK
	case isDir && m.lies(t, m.nodes[i]):
		return api.ErrTreeLoop
	case !isDir && m.links(i) == 100:
		return api.ErrTreeLinks
	}
	if q < 0 {
		if q, e = m.slotFor(t); e != api.OK {
			return e
		}
	}
	t.slots[q] = api.Slot{Ino: i, Name: name}
	d.slots[p] = api.Slot{}
	if j != 0 {
		m.drop(j)
	}
	return api.OK
}

// ask does what is done to an inode alone.
func (m *memory) ask(o api.Op, i int) api.Answer {
	n := m.nodes[i]
	switch {
	case o.Kind == api.OpStat:
		return api.Answer{Stat: m.stat(i)}
	case o.Kind == api.OpList && n.kind == api.KindFile:
		return api.Answer{Code: api.ErrDirKind}
	case o.Kind == api.OpList:
		return api.Answer{Entries: m.list(i)}
	case n.kind == api.KindDir:
		return api.Answer{Code: api.ErrFileKind}
	case o.Kind == api.OpFsync:
		return api.Answer{}
	case o.Kind == api.OpWrite:
		return api.Answer{Code: m.write(n, o.Off, o.Data)}
	case o.Kind == api.OpTruncate:
		return api.Answer{Code: n.truncate(o.Off)}
	case o.Off < 0 || o.Len < 0 || o.Len > 1<<17:
		return api.Answer{Code: api.ErrFileRange}
	}
	all := n.bytes()
	from := min(o.Off, len(all))
	return api.Answer{Data: all[from:min(len(all), from+o.Len)]}
}

// bytes are all of a file's.
func (n *node) bytes() []byte {
	var all []byte
	for k := range (n.size + 127) / 128 {
		s := n.blocks[k]
		all = append(all, s[:]...)
	}
	return all[:n.size]
}

func (m *memory) write(n *node, off int, data []byte) api.Errno {
	if off < 0 || len(data) > 1<<17 || off > 136704-len(data) {
		return api.ErrFileRange
	}
	if len(data) == 0 {
		return api.OK
	}
	var touched []int
	for k := off / 128; k*128 < off+len(data); k++ {
		touched = append(touched, k)
	}
	if !m.roomFor(n, touched...) {
		return api.ErrSpaceBlocks
	}
	for at, b := range data {
		s := n.blocks[(off+at)/128]
		s[(off+at)%128] = b
		n.blocks[(off+at)/128] = s
	}
	n.size = max(n.size, off+len(data))
	return api.OK
}

func (n *node) truncate(size int) api.Errno {
	if size < 0 || size > 136704 {
		return api.ErrFileRange
	}
	for k := range n.blocks {
		s := n.blocks[k]
		clear(s[min(128, max(0, size-128*k)):])
		n.blocks[k] = s
		if 128*k >= size {
			delete(n.blocks, k)
		}
	}
	n.size = size
	return api.OK
}

// list are the entries of a directory, by their names.
func (m *memory) list(d int) []api.Entry {
	var l []api.Entry
	for _, s := range m.nodes[d].slots {
		if s.Ino != 0 {
			l = append(l, api.Entry{Name: s.Name, Ino: s.Ino, Kind: m.nodes[s.Ino].kind})
		}
	}
	slices.SortFunc(l, func(a, b api.Entry) int { return cmp.Compare(a.Name, b.Name) })
	return l
}

func (m *memory) stat(i int) api.Stat {
	n := m.nodes[i]
	return api.Stat{Ino: i, Kind: n.kind, Links: m.links(i), Size: n.size, Made: n.made, Blocks: n.sectorsWith()}
}

// paths are those of all entries, by rising inodes of their directories, the root ahead of them.
func (m *memory) paths() []string {
	all := []string{"/"}
	var below func(d int, at string)
	below = func(d int, at string) {
		for _, n := range m.list(d) {
			all = append(all, at+"/"+n.Name)
			if n.Kind == api.KindDir {
				below(n.Ino, at+"/"+n.Name)
			}
		}
	}
	below(1, "")
	return all
}
