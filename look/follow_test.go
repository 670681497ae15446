package look_test

import (
	"slices"
	"testing"

	"breakwater/api"
	"breakwater/cache"
	"breakwater/dir"
	"breakwater/disk"
	files "breakwater/file"
	"breakwater/layout"
	"breakwater/space"
)

// steps answers numbers below a limit, the same ones in every run.
func steps(seed uint32) func(limit int) int {
	return func(limit int) int {
		seed = seed*1664525 + 1013904223
		return int(seed>>8) % limit
	}
}

// maker makes sectors of which many are half right.
type maker struct {
	next func(int) int
	x    api.Super
}

// What a data sector is mostly made to be, by its number's rest; a pointer mostly leads to what it should.
const (
	toSlot = iota
	toTable
	toBytes
	toCount
)

// to is where a pointer leads. There are few data sectors, so that several lead to one.
func (m *maker) to(role int) int {
	switch m.next(20) {
	case 0:
		return 0
	case 1:
		return m.next(m.x.Sectors + 3)
	case 2:
		return far - m.next(2)
	}
	n := m.x.Inodes + 1 + m.next(m.x.Sectors-m.x.Inodes-1)
	if better := n - n%toCount + role; m.next(5) > 0 && better < m.x.Sectors {
		return better
	}
	return n
}

// inode is one of any kind, size and pointers.
func (m *maker) inode() api.Sector {
	kind := api.KindFile
	if m.next(4) == 0 {
		kind = api.KindDir
	}
	return m.spoil(m.inodeOf(kind), 12)
}

func (m *maker) inodeOf(kind int) api.Sector {
	all := sizes()
	x := api.Inode{Kind: kind, Links: m.next(3), Size: all[m.next(len(all))], Made: m.next(1000)}
	if m.next(2) == 0 {
		x.Size = m.next(128 * 6)
	}
	role := toBytes
	if kind == api.KindDir {
		x.Size = x.Size / 128 * 128
		role = toSlot
	}
	for k := range x.Direct {
		if k < 2 || m.next(6) == 0 {
			x.Direct[k] = m.to(role)
		}
	}
	if m.next(2) == 0 {
		x.Single = m.to(toTable)
	}
	if m.next(2) == 0 {
		x.Double = m.to(toTable)
	}
	s, _ := layout.InodeSector(x)
	return s
}

// spoil turns a byte, once in so many times.
func (m *maker) spoil(s api.Sector, rarely int) api.Sector {
	if m.next(rarely) == 0 {
		s[m.next(128)] ^= byte(1 << m.next(8))
	}
	return s
}

func (m *maker) pointers() api.Sector {
	var p api.Pointers
	for range 1 + m.next(6) {
		p[[]int{0, 0, 1, 2, 30, 31, m.next(32)}[m.next(7)]] = m.to(m.next(toCount))
	}
	s, _ := layout.PointersSector(p)
	return s
}

func (m *maker) slot() api.Sector {
	s, _ := layout.SlotSector(api.Slot{Ino: 1 + m.next(m.x.Inodes+1), Name: string(rune('a' + m.next(12)))})
	return m.spoil(s, 20)
}

func (m *maker) any() api.Sector {
	var s api.Sector
	for i := range s {
		s[i] = byte(m.next(256))
	}
	return s
}

func (m *maker) data(n int) api.Sector {
	role := n % toCount
	if m.next(6) == 0 {
		role = m.next(toCount + 2)
	}
	switch role {
	case toSlot:
		return m.slot()
	case toTable:
		return m.pointers()
	case toBytes:
		return m.any()
	case toCount:
		return m.inode()
	}
	return api.Sector{}
}

// anyImage is one whose first sector and root are such, and all else whatever comes.
func anyImage(seed uint32) []api.Sector {
	next := steps(seed)
	m := &maker{next, api.Super{Sectors: 8 + next(60)}}
	m.x.Inodes = 1 + next(min(12, m.x.Sectors-2))
	image := make([]api.Sector, m.x.Sectors)
	image[0], _ = layout.SuperSector(m.x)
	for n := 1; n < m.x.Sectors; n++ {
		switch {
		case n > m.x.Inodes:
			image[n] = m.data(n)
		case m.next(8) > 0:
			image[n] = m.inode()
		}
	}
	image[1] = m.inodeOf(api.KindDir)
	if next(5) > 0 { // a root with many slots
		x, _ := layout.ReadInode(image[1])
		x.Size = max(x.Size, 128*12)
		for k := range x.Direct {
			x.Direct[k] = m.to(toSlot)
		}
		image[1], _ = layout.InodeSector(x)
	}
	return image
}

// roleOf says what a sector is in a Want.
func roleOf(r api.Report, n int) string {
	for _, i := range r.Inodes {
		for _, p := range pointersOf(r.Want, i) {
			switch {
			case p.to != n:
			case p.table:
				return "table"
			case r.Want[i][0] == 2:
				return "slot"
			default:
				return "bytes"
			}
		}
	}
	return "inode"
}

func TestAnyImages(t *testing.T) { // P12.1 to P12.6
	kinds := map[string]int{}
	for seed := range uint32(4000) {
		image := anyImage(seed)
		r := hold(t, image)
		if t.Failed() {
			t.Fatalf("seed %d", seed)
		}
		for _, n := range r.Write {
			kinds[roleOf(r, n)]++
		}
		if len(r.Inodes) > 2 {
			kinds["many inodes"]++
		}
	}
	for _, kind := range []string{"inode", "slot", "table", "bytes", "many inodes"} {
		if kinds[kind] < 500 {
			t.Errorf("%s: %d alone", kind, kinds[kind])
		}
	}
}

func TestImagesThatBecameWellAndAreSpoilt(t *testing.T) { // P12.1 to P12.6: a byte at a time
	for seed := range uint32(600) {
		next := steps(seed + 90000)
		now := hold(t, anyImage(seed)).Want
		for range 6 {
			spoilt := slices.Clone(now)
			n := 1 + next(len(now)-1)
			spoilt[n][next(128)] ^= byte(1 << next(8))
			hold(t, spoilt)
			other := slices.Clone(now)
			other[1+next(len(now)-1)] = other[1+next(len(now)-1)]
			hold(t, other)
		}
		if t.Failed() {
			t.Fatalf("seed %d", seed)
		}
	}
}

func TestImagesOfAnyBytes(t *testing.T) { // P12.1: also such as no file system ever wrote
	for seed := range uint32(300) {
		next := steps(seed + 5000)
		m := &maker{next, api.Super{Sectors: 8 + next(200), Inodes: 1 + next(6)}}
		image := make([]api.Sector, m.x.Sectors)
		for n := range image {
			image[n] = m.any()
		}
		hold(t, image)
		image[0], _ = layout.SuperSector(m.x)
		hold(t, image)
		image[1], _ = layout.InodeSector(api.Inode{Kind: api.KindDir, Size: 136704, Direct: [12]int{m.to(toSlot), m.to(toSlot)}, Single: m.to(toTable), Double: m.to(toTable)})
		hold(t, image)
		hold(t, image[:next(len(image))])
	}
}

func TestGreatImagesOfPointersAlone(t *testing.T) { // P12.1: every sector leads to others, every inode to a double table
	for seed := range uint32(2) {
		next := steps(seed + 777)
		m := &maker{next, api.Super{Sectors: 4096, Inodes: 512}}
		image := make([]api.Sector, 4096)
		image[0], _ = layout.SuperSector(m.x)
		for n := 513; n < 4096; n++ {
			var p api.Pointers
			for k := range p {
				p[k] = 513 + next(3583)
			}
			image[n], _ = layout.PointersSector(p)
		}
		for i := 2; i <= 512; i++ {
			x := api.Inode{Kind: api.KindFile, Size: 136704 - next(3), Single: m.to(toTable), Double: m.to(toTable)}
			image[i], _ = layout.InodeSector(x)
			image[600+i], _ = layout.SlotSector(api.Slot{Ino: i, Name: string(rune('a'+i%26)) + string(rune('a'+i/26))})
		}
		d := &draft{t, image, 512, 2000}
		x := root()
		x.Size = 128 * 511
		for k, n := range d.grow(1, x, upTo(0, 510)...) {
			d.image[n] = d.image[602+k]
		}
		r, want := mustLook(t, image)
		if !same(r, want) || ill(r.Want) != "" || len(r.Inodes) != 512 {
			t.Errorf("seed %d: %d inodes, %s", seed, len(r.Inodes), ill(r.Want))
		}
		if again, _ := mustLook(t, r.Want); len(again.Write) > 0 || !same(again, api.Report{Want: r.Want, Inodes: r.Inodes, Blocks: r.Blocks}) {
			t.Errorf("seed %d: again %v", seed, again.Write)
		}
	}
}

// system is files and directories on a disk, by the layers below.
type system struct {
	*testing.T
	disk  *disk.Disk
	cache *cache.Cache
	space *space.Space
	files *files.Files
	dirs  *dir.Dirs
}

func (s *system) ok(what string, e api.Errno) {
	s.Helper()
	if e != api.OK {
		s.Fatalf("%s: %d", what, e)
	}
}

// systemOf is one with an empty root, all of which has landed.
func systemOf(t *testing.T, x api.Super) *system {
	t.Helper()
	s := &system{T: t}
	var e api.Errno
	s.disk, e = disk.New(x.Sectors)
	s.ok("disk.New", e)
	first, e := layout.SuperSector(x)
	s.ok("SuperSector", e)
	s.ok("disk.Write", s.disk.Write(0, first))
	s.cache, e = cache.New(s.disk)
	s.ok("cache.New", e)
	s.space, e = space.New(x, []int{1}, nil)
	s.ok("space.New", e)
	s.files, e = files.New(s.cache, s.space)
	s.ok("file.New", e)
	s.dirs, e = dir.New(s.cache, s.files)
	s.ok("dir.New", e)
	s.ok("Put", s.files.Put(1, root()))
	s.ok("Sync", s.cache.Sync())
	return s
}

// make makes a file or directory in a directory; each lands behind what it leads to.
func (s *system) make(d, kind int, name string) int {
	s.Helper()
	i, e := s.space.TakeInode()
	s.ok("TakeInode", e)
	s.ok("Put", s.files.Put(i, api.Inode{Kind: kind, Links: 1, Made: 1000 + i}))
	k, _, e := s.dirs.Place(d)
	s.ok("Place", e)
	s.ok("Set", s.dirs.Set(d, k, api.Slot{Ino: i, Name: name}, i))
	return i
}

// fill makes a tree of directories and files, with tables, holes and tails.
func (s *system) fill(next func(int) int) {
	s.Helper()
	dirs := []int{1}
	for n := range 12 {
		d := dirs[next(len(dirs))]
		name := string(rune('a' + n))
		if next(3) == 0 {
			dirs = append(dirs, s.make(d, api.KindDir, name))
			continue
		}
		i := s.make(d, api.KindFile, name)
		for range next(4) {
			off := []int{0, 100, 128 * 11, 128 * 12, 128*43 + 7, 128 * 44, 128 * 76, 136000}[next(8)]
			s.ok("Write", s.files.Write(i, off, slices.Repeat([]byte{byte(1 + n)}, 1+next(300))))
		}
		if next(3) == 0 {
			s.ok("Truncate", s.files.Truncate(i, next(6000)))
		}
	}
}

func TestWhatTheLayersBelowWroteIsWell(t *testing.T) { // P12.4
	for seed := range uint32(40) {
		s := systemOf(t, api.Super{Sectors: 400, Inodes: 16})
		s.fill(steps(seed))
		s.ok("Sync", s.cache.Sync())
		image := s.disk.Image()
		if why := ill(image); why != "" {
			t.Fatalf("seed %d: %s", seed, why)
		}
		r := hold(t, image)
		if len(r.Write) > 0 || len(r.Inodes) != 13 {
			t.Errorf("seed %d: %v, %v", seed, r.Write, r.Inodes)
		}
		for _, n := range r.Inodes {
			if !s.space.Used(n) {
				t.Errorf("seed %d: inode %d is free", seed, n)
			}
		}
		s.ok("Settle", s.files.Settle())
		if room := s.space.Room(); room.Blocks != 400-17-len(r.Blocks) {
			t.Errorf("seed %d: %d sectors are claimed, %d are free", seed, len(r.Blocks), room.Blocks)
		}
	}
}

func TestWhatTheLayersBelowHalfWrote(t *testing.T) { // P12.1 to P12.6: some of what is dirty has landed
	for seed := range uint32(40) {
		next := steps(seed + 333)
		s := systemOf(t, api.Super{Sectors: 400, Inodes: 16})
		s.fill(next)
		for {
			list := s.cache.Eligible()
			if len(list) == 0 {
				break
			}
			_, e := s.cache.Flush(list[next(len(list))])
			s.ok("Flush", e)
			if next(8) == 0 {
				hold(t, s.disk.Image())
			}
		}
	}
}
