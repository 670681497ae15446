package plain_test

import (
	"maps"
	"slices"
	"strings"

	"breakwater/api"
)

// model is what P16.7 and P16.8 speak of: which making each path leads to, and the bytes of each.
type model struct {
	names map[string]int // by paths: Made of what they lead to, each making with one of its own
	kinds map[int]int
	bytes map[int][]byte
}

func newModel() *model {
	return &model{map[string]int{"/": 0}, map[int]int{0: api.KindDir}, map[int][]byte{}}
}

// apply does an operation that was answered OK.
func (m *model) apply(o api.Op) {
	switch o.Kind {
	case api.OpCreate, api.OpMkdir:
		m.names[o.Path] = o.Made
		m.kinds[o.Made] = o.Kind
	case api.OpLink:
		m.names[o.To] = m.names[o.Path]
	case api.OpUnlink, api.OpRmdir:
		delete(m.names, o.Path)
	case api.OpRename:
		m.rename(o.Path, o.To)
	case api.OpWrite:
		if len(o.Data) == 0 {
			return
		}
		b := m.grown(o.Path, o.Off+len(o.Data))
		copy(b[o.Off:], o.Data)
	case api.OpTruncate:
		b := m.grown(o.Path, o.Off)
		m.bytes[m.names[o.Path]] = slices.Clone(b[:o.Off])
	}
}

// grown are a file's bytes, with zeros up to a size.
func (m *model) grown(path string, size int) []byte {
	made := m.names[path]
	b := m.bytes[made]
	b = append(b, make([]byte, max(0, size-len(b)))...)
	m.bytes[made] = b
	return b
}

// rename moves a name, and those behind it.
func (m *model) rename(path, to string) {
	if there, yes := m.names[to]; yes && there == m.names[path] {
		return
	}
	for _, s := range slices.Collect(maps.Keys(m.names)) {
		if rest, yes := strings.CutPrefix(s, path); yes && (rest == "" || rest[0] == '/') {
			m.names[to+rest] = m.names[s]
			delete(m.names, s)
		}
	}
}

// matches holds what is told to the model, and to itself: Links are the entries, every inode in use is reached, and has its sectors.
func (r *rig) matches(m *model, data, inodes int) {
	r.Helper()
	all := paths(r.p)
	if slices.Sort(all); !slices.Equal(all, slices.Sorted(maps.Keys(m.names))) {
		r.Fatalf("there are %q, want %q", all, slices.Sorted(maps.Keys(m.names)))
	}
	entries, links, blocks := map[int]int{}, map[int]int{}, 0
	for _, s := range all {
		x := r.p.Do(stat(s)).Stat
		made := m.names[s]
		if x.Made != made || x.Kind != m.kinds[made] {
			r.Fatalf("%s: %+v, want made %d", s, x, made)
		}
		if entries[x.Ino]++; entries[x.Ino] == 1 {
			blocks += x.Blocks
		}
		links[x.Ino] = x.Links
		if want := m.bytes[made]; x.Kind == api.KindFile && (x.Size != len(want) || !slices.Equal(bytesOf(r.p, s), want)) {
			r.Fatalf("%s has other bytes", s)
		}
	}
	if !maps.Equal(entries, links) {
		r.Fatalf("entries: %v, links: %v", entries, links)
	}
	if x := r.p.Room(); x != (api.Room{Blocks: data - blocks, Inodes: inodes - len(entries)}) {
		r.Fatalf("Room: %+v; what is reached has %d of %d sectors, and %d of %d inodes", x, blocks, data, len(entries), inodes)
	}
}

// bytesOf are all of a file's.
func bytesOf(p asker, path string) []byte {
	var all []byte
	for {
		data := p.Do(read(path, len(all), api.MaxData)).Data
		if len(data) == 0 {
			return all
		}
		all = append(all, data...)
	}
}
