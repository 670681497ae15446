package fs_test

import (
	"strings"
	"testing"

	"breakwater/api"
	"breakwater/fs"
)

// player chooses operations: few names and places, so that they meet.
type player struct {
	next  func(int) int
	names int // how many are played
	made  int // each making has a time of its own
	stamp int // each writing has bytes of its own
}

func (p *player) one(all []string) string { return all[p.next(len(all))] }

// directory is the path of one that is there, without a last '/'; now and then that of a file.
func (p *player) directory(m *memory) string {
	for {
		s := p.one(m.paths())
		if i := m.at(s); m.nodes[i].kind == api.KindDir || p.next(30) == 0 {
			return strings.TrimSuffix(s, "/")
		}
	}
}

// at is the inode that a path of the memory's own leads to.
func (m *memory) at(s string) int {
	i, _ := m.walk(strings.FieldsFunc(s, func(r rune) bool { return r == '/' }))
	return i
}

// fresh is a path that may be new.
func (p *player) fresh(m *memory) string { return p.directory(m) + "/" + count(p.next(p.names)) }

// there is a path that leads somewhere, but for some.
func (p *player) there(m *memory) string {
	switch p.next(20) {
	case 0:
		return p.fresh(m)
	case 1:
		return p.one([]string{"", "/", "a", "//", "/a/", "/..", "/.", "/a//b", "/a\x00"})
	}
	return p.one(m.paths())
}

// file is a path that leads to a file mostly.
func (p *player) file(m *memory) string {
	s := ""
	for range 3 {
		if s = p.there(m); m.nodes[max(1, m.at(s))].kind == api.KindFile {
			break
		}
	}
	return s
}

// place is a byte's: at the ends of blocks, and of what tables lead to.
func (p *player) place() int {
	ends := []int{0, 0, 0, 100, 128, 256, 1536, 1664, 5632, 9728, 136704}
	return ends[p.next(len(ends))] + p.next(5) - 2 + p.next(2)*p.next(128)
}

func (p *player) bytes() []byte {
	p.stamp++
	data := make([]byte, []int{0, 1, 3, 60, 128, 129, 300, 700, 1600}[p.next(9)])
	for k := range data {
		data[k] = byte(p.stamp*7 + k/16 + 1)
	}
	return data
}

// some is an operation.
func (p *player) some(m *memory, f *fs.FS) api.Op {
	switch kind := p.next(48); {
	case kind < 6:
		p.made++
		return api.Op{Kind: api.OpCreate, Path: p.fresh(m), Made: p.made}
	case kind < 9:
		p.made++
		return api.Op{Kind: api.OpMkdir, Path: p.fresh(m), Made: p.made}
	case kind < 12:
		return link(p.file(m), p.fresh(m))
	case kind < 15:
		return unlink(p.file(m))
	case kind < 18:
		return rmdir(p.there(m))
	case kind < 23:
		return rename(p.there(m), p.fresh(m))
	case kind < 25:
		return rename(p.there(m), p.there(m))
	case kind < 32:
		return write(p.file(m), p.place(), p.bytes())
	case kind < 34:
		return truncate(p.file(m), p.place())
	}
	return p.ask(m, f)
}

// ask is one that changes no name and no byte.
func (p *player) ask(m *memory, f *fs.FS) api.Op {
	switch p.next(12) {
	case 0:
		return fsync(p.file(m))
	case 1:
		return read(p.there(m), p.place(), p.next(200))
	case 2:
		return stat(p.there(m))
	case 3:
		return list(p.there(m))
	case 4:
		if p.next(3) == 0 {
			return sync()
		}
	case 5:
		return p.spoilt(p.fresh(m))
	}
	if all := f.Dirty(); len(all) > 0 {
		return flush(all[p.next(len(all))])
	}
	return flush(p.next(50) - 2)
}

// spoilt has fields as it happens.
func (p *player) spoilt(at string) api.Op {
	o := api.Op{Kind: p.next(17) - 1, Path: at}
	switch p.next(7) {
	case 0:
		o.To = at
	case 1:
		o.Off = p.next(3) - 1
	case 2:
		o.Len = p.next(3) - 1
	case 3:
		o.Data = make([]byte, p.next(2))
	case 4:
		o.Made = []int{-1, 1 << 40, 1<<40 + 1}[p.next(3)]
	case 5:
		o.Pick = p.next(3) - 1
	}
	if o.Made == 0 && o.Kind <= api.OpMkdir {
		o.Kind = api.OpStat // every making has a time of its own
	}
	if o.Made == 1<<40 && o.Kind <= api.OpMkdir {
		p.made++
		o.Made -= p.made
	}
	return o
}

// size is that of a disk on which is played.
type size struct{ sectors, inodes, names int }

// sizes are some of each kind: with much room and with little, with many names, so that there are tables.
func sizes() []size {
	return []size{{60, 8, 4}, {24, 6, 3}, {16, 7, 3}, {120, 40, 12}, {200, 100, 60}, {40, 4, 20}, {400, 12, 5}}
}

// both does an operation, and holds it to what it is in memory, but for Landed.
func (r *rig) both(m *memory, o api.Op) api.Answer {
	r.Helper()
	a, want := r.f.Do(o), m.do(o)
	want.Landed = a.Landed && o.Kind == api.OpFlush
	if !equal(a, want) {
		r.Fatalf("%s: %+v, want %+v", say(o), a, want)
	}
	return a
}

// holds holds a file system to one in memory.
func (r *rig) holds(m *memory) {
	r.Helper()
	blocks := 0
	counted := map[int]int{}
	for _, p := range m.paths() {
		a := r.both(m, stat(p)).Stat
		if counted[a.Ino]++; counted[a.Ino] == 1 {
			blocks += a.Blocks
		}
		if a.Kind == api.KindFile {
			r.both(m, read(p, 0, a.Size))
			continue
		}
		r.both(m, list(p))
	}
	room := r.f.Room()
	if room.Blocks+blocks != m.data || room.Blocks != m.data-m.used() || room.Inodes+len(counted) != m.inodes || room.Inodes != m.inodes-len(m.nodes) {
		r.Fatalf("Room: %+v; what is there has %d of %d sectors, and %d of %d inodes", room, blocks, m.data, len(counted), m.inodes)
	}
}

func TestAsInMemory(t *testing.T) { // P15.3, P15.8, P15.9, P15.11, W1, W7: whatever is flushed, each operation is answered as in memory, and what is refused changes nothing
	for seed := range 70 {
		size := sizes()[seed%7]
		p := &player{next: steps(uint32(seed)), names: size.names}
		r, m := rigOf(t, size.sectors, size.inodes), memoryOf(size.sectors, size.inodes)
		for range 160 {
			o := p.some(m, r.f)
			before := r.d.Writes()
			dirty := len(r.f.Dirty())
			a := r.both(m, o)
			n := r.d.Writes() - before
			if landed := o.Kind == api.OpFlush && n == 1; landed != a.Landed {
				t.Fatalf("%s: %v, and %d sectors were written", say(o), a.Landed, n)
			}
			if o.Kind == api.OpSync && a.Code == api.OK && n != dirty {
				t.Fatalf("a Sync of %d dirty sectors has written %d", dirty, n)
			}
			if isQuestion(o) && n > 0 {
				t.Fatalf("%s: %d sectors were written", say(o), n)
			}
			r.holds(m)
		}
		r.flushAll(p.next)
		r.holds(m)
	}
}

// isQuestion tells whether an operation only asks.
func isQuestion(o api.Op) bool {
	return o.Kind == api.OpRead || o.Kind == api.OpStat || o.Kind == api.OpList
}

// flushAll flushes in any order, and holds something to landing each time (P15.11).
func (r *rig) flushAll(next func(int) int) {
	r.Helper()
	for {
		all := r.f.Dirty()
		if len(all) == 0 {
			return
		}
		landed := 0
		for len(all) > 0 {
			k := next(len(all))
			if r.f.Do(flush(all[k])).Landed {
				landed++
			}
			all = append(all[:k], all[k+1:]...)
		}
		if landed == 0 {
			r.Fatalf("of %v none has landed", r.f.Dirty())
		}
	}
}
