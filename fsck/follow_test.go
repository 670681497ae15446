package fsck_test

import (
	"slices"
	"testing"

	"breakwater/api"
	"breakwater/cache"
	"breakwater/dir"
	"breakwater/disk"
	files "breakwater/file"
	"breakwater/fsck"
	"breakwater/layout"
	"breakwater/look"
	"breakwater/space"
)

// steps answers numbers below a limit, the same ones in every run.
func steps(seed uint32) func(limit int) int {
	return func(limit int) int {
		seed = seed*1664525 + 1013904223
		return int(seed>>8) % limit
	}
}

// maker makes sectors of which many are half right.
type maker struct {
	next func(int) int
	x    api.Super
}

// to is where a pointer leads: mostly to one of the few data sectors that are made for that (slots, tables, bytes), by the rest of their number.
func (m *maker) to(rest int) int {
	n := m.x.Inodes + 1 + m.next(m.x.Sectors-m.x.Inodes-1)
	switch m.next(12) {
	case 0:
		return m.next(m.x.Sectors + 2)
	case 1:
		return n
	}
	if better := n - n%3 + rest; better < m.x.Sectors {
		return better
	}
	return n
}

func (m *maker) inode(kind int) api.Sector {
	x := api.Inode{Kind: kind, Links: m.next(3), Size: []int{0, 3, 128, 200, 300, 1530, 1536, 1700, 5632, 5700, 136704}[m.next(11)], Made: m.next(99)}
	rest := 2
	if kind == api.KindDir {
		x.Size, rest = x.Size/128*128, 0
	}
	for k := range x.Direct {
		if k < 3 || m.next(4) == 0 {
			x.Direct[k] = m.to(rest)
		}
	}
	x.Single, x.Double = m.next(2)*m.to(1), m.next(2)*m.to(1)
	s, _ := layout.InodeSector(x)
	return s
}

func (m *maker) data(rest int) api.Sector {
	var s api.Sector
	switch rest {
	case 0:
		s, _ = layout.SlotSector(api.Slot{Ino: 1 + m.next(m.x.Inodes+1), Name: string(rune('a' + m.next(12)))})
	case 1:
		var p api.Pointers
		for range 6 {
			p[[]int{0, 1, 2, 31, m.next(32)}[m.next(5)]] = m.to(m.next(3))
		}
		s, _ = layout.PointersSector(p)
	default:
		for i := range s {
			s[i] = byte(m.next(256))
		}
	}
	return s
}

// anyImage is one whose first sector and root are such, and all else whatever comes.
func anyImage(seed uint32) []api.Sector {
	next := steps(seed)
	m := &maker{next, api.Super{Sectors: 8 + next(70)}}
	m.x.Inodes = 1 + next(min(10, m.x.Sectors-2))
	image := make([]api.Sector, m.x.Sectors)
	image[0], _ = layout.SuperSector(m.x)
	for n := 1; n < m.x.Sectors; n++ {
		image[n] = m.data(n % 3)
		if n <= m.x.Inodes {
			image[n] = m.inode([]int{api.KindFile, api.KindFile, api.KindDir}[next(3)])
		}
		if next(25) == 0 {
			image[n][next(128)] ^= byte(1 + next(255))
		}
	}
	x := root()
	x.Size = 128 * 12
	for k := range x.Direct {
		x.Direct[k] = m.to(0)
	}
	image[1], _ = layout.InodeSector(x)
	return image
}

// rowOf says which of the three rows of Write a sector is of.
func rowOf(r api.Report, n int) int {
	if super, _ := layout.ReadSuper(r.Want[0]); n <= super.Inodes {
		return 1
	}
	for _, i := range r.Inodes {
		x, _ := layout.ReadInode(r.Want[i])
		for _, p := range pointersOf(r.Want, x) {
			if p.to == n && !p.table && x.Kind == api.KindFile {
				return 2
			}
		}
	}
	return 0
}

func TestAnyImages(t *testing.T) { // P13.1 to P13.5
	var rows [3]int
	for seed := range uint32(1500) {
		image := anyImage(seed)
		r := hold(t, image)
		if t.Failed() {
			t.Fatalf("seed %d", seed)
		}
		for _, n := range r.Write {
			rows[rowOf(r, n)]++
		}
	}
	if min(rows[0], rows[1], rows[2]) < 300 {
		t.Errorf("too few of a row: %v", rows)
	}
}

func TestImagesOfAnyBytes(t *testing.T) { // P13.1, P13.5: also such as no file system ever wrote
	for seed := range uint32(200) {
		next := steps(seed + 5000)
		m := &maker{next, api.Super{Sectors: 8 + next(90), Inodes: 1 + next(6)}}
		image := make([]api.Sector, m.x.Sectors)
		for n := range image {
			image[n] = m.data(2)
		}
		hold(t, image)
		image[0], _ = layout.SuperSector(m.x)
		hold(t, image)
		image[1] = m.inode(api.KindDir)
		hold(t, image)
		hold(t, image[:1+next(len(image))])
	}
}

func TestOneByteIsTurned(t *testing.T) { // P13.3: an image that was put right, spoilt and run again
	for _, d := range []*draft{hello(t), mixed(t)} {
		on := d.disk()
		if _, e := fsck.Run(on); e != api.OK {
			t.Fatal(e)
		}
		right := on.Image()
		for n := range right {
			for at := range right[n] {
				spoilt := slices.Clone(right)
				spoilt[n][at] ^= byte(1 << (at % 8))
				hold(t, spoilt)
				spoilt[n][at] = ^right[n][at]
				hold(t, spoilt)
			}
			if t.Failed() {
				t.Fatalf("sector %d", n)
			}
		}
	}
}

func TestOneDiskOftenSpoilt(t *testing.T) { // P13.3: the same disk, put right each time
	next := steps(77)
	d := mixed(t)
	on := d.disk()
	for round := range 400 {
		n := 2 + next(on.Len()-2)
		s, e := on.Read(n)
		if e != api.OK {
			t.Fatal(e)
		}
		s[next(80)] ^= byte(1 + next(255))
		on.Write(n, s)
		want, e := look.Look(on.Image())
		before := on.Writes()
		r, f := fsck.Run(on)
		if e != api.OK || f != api.OK || !same(r, want) || on.Writes()-before != len(want.Write) || !slices.Equal(on.Image(), want.Want) {
			t.Fatalf("round %d: %d, %v", round, f, r.Write)
		}
		if why := ill(on.Image()); why != "" {
			t.Fatalf("round %d: %s", round, why)
		}
	}
}

// cuts goes on with a disk behind so many writes: the power goes at each one of what is left, and so on in the Runs behind it, so many of them.
func cuts(t *testing.T, d *disk.Disk, image []api.Sector, want api.Report, done, runs int) {
	t.Helper()
	ends(t, d.Copy(), want, done)
	if runs == 0 {
		return
	}
	for k := range len(want.Write) - done {
		next := d.Copy()
		cut(t, next, image, want, done, k)
		cuts(t, next, image, want, done+k, runs-1)
	}
}

func TestCutOffAgainAndAgain(t *testing.T) { // P13.4: at each write of three Runs, one behind the other
	images := [][]api.Sector{hello(t).image, mixed(t).image}
	for seed := range uint32(40) {
		images = append(images, anyImage(seed+30000))
	}
	for at, image := range images {
		want, e := look.Look(image)
		if e != api.OK {
			t.Fatalf("image %d: %d", at, e)
		}
		cuts(t, diskOf(t, image), image, want, 0, 3)
	}
}

func TestCutOffOneWriteAtATime(t *testing.T) { // P13.4: as often as there are writes, and in between with none done
	for seed := range uint32(200) {
		image := anyImage(seed + 60000)
		want, _ := look.Look(image)
		d := diskOf(t, image)
		for done := range want.Write {
			cut(t, d, image, want, done, 0)
			cut(t, d, image, want, done, 0)
			if done+1 < len(want.Write) {
				cut(t, d, image, want, done, 1)
				continue
			}
			arm(t, d, 1)
			ends(t, d, want, done)
			left(t, d, 0)
		}
	}
}

// system is files and directories on a disk, by the layers below.
type system struct {
	*testing.T
	disk  *disk.Disk
	cache *cache.Cache
	space *space.Space
	files *files.Files
	dirs  *dir.Dirs
}

func (s *system) ok(what string, e api.Errno) {
	s.Helper()
	if e != api.OK {
		s.Fatalf("%s: %d", what, e)
	}
}

// systemOn is one on a disk of which these inodes and data sectors are in use.
func systemOn(t *testing.T, d *disk.Disk, x api.Super, inodes, blocks []int) *system {
	t.Helper()
	s := &system{T: t, disk: d}
	var e api.Errno
	s.cache, e = cache.New(d)
	s.ok("cache.New", e)
	s.space, e = space.New(x, inodes, blocks)
	s.ok("space.New", e)
	s.files, e = files.New(s.cache, s.space)
	s.ok("file.New", e)
	s.dirs, e = dir.New(s.cache, s.files)
	s.ok("dir.New", e)
	return s
}

// make makes a file or directory in a directory; each lands behind what it leads to.
func (s *system) make(d, kind int, name string) int {
	s.Helper()
	i, e := s.space.TakeInode()
	s.ok("TakeInode", e)
	s.ok("Put", s.files.Put(i, api.Inode{Kind: kind, Links: 1, Made: 1000 + i}))
	k, _, e := s.dirs.Place(d)
	s.ok("Place", e)
	s.ok("Set", s.dirs.Set(d, k, api.Slot{Ino: i, Name: name}, i))
	return i
}

// fill makes some files in two directories, with tables and tails.
func (s *system) fill(next func(int) int) {
	s.Helper()
	inner := s.make(1, api.KindDir, "d")
	for n := range 4 {
		i := s.make([]int{1, inner}[next(2)], api.KindFile, string(rune('p'+n)))
		off := []int{0, 100, 128*11 + 5, 128 * 43, 128 * 44}[next(5)]
		s.ok("Write", s.files.Write(i, off, slices.Repeat([]byte{byte(1 + n)}, 1+next(300))))
	}
}

func TestWhatTheLayersBelowWrote(t *testing.T) { // P13.1 to P13.4: what has landed when the power goes, at each write, and at each of Run then
	x := api.Super{Sectors: 100, Inodes: 8}
	put := 0
	for seed := range uint32(8) {
		empty := draftOf(t, x.Sectors, x.Inodes)
		empty.inode(1, root())
		for armed := 0; ; armed++ {
			s := systemOn(t, empty.disk(), x, list(1), nil)
			s.fill(steps(seed))
			arm(t, s.disk, armed)
			e := s.cache.Sync()
			s.disk.Restart()
			r := hold(t, s.disk.Image())
			put += len(r.Write)
			if _, again := fsck.Run(s.disk); again != api.OK {
				t.Fatalf("seed %d, armed with %d: %d", seed, armed, again)
			}
			// What was put right can be gone on with.
			then := systemOn(t, s.disk, x, r.Inodes, r.Blocks)
			if len(r.Inodes) < x.Inodes {
				then.make(1, api.KindFile, "z")
			}
			then.ok("Sync", then.cache.Sync())
			if r := hold(t, s.disk.Image()); len(r.Write) > 0 {
				t.Errorf("seed %d, armed with %d: %v behind a Sync", seed, armed, r.Write)
			}
			if e == api.OK {
				break
			}
		}
	}
	if put < 100 {
		t.Errorf("%d sectors alone were to be put right", put)
	}
}
