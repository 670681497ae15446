package dir_test

import (
	"encoding/binary"
	"slices"
	"testing"

	"breakwater/api"
	"breakwater/cache"
	"breakwater/dir"
	"breakwater/disk"
	"breakwater/file"
	"breakwater/layout"
	"breakwater/space"
)

// rig is directories, and all that they lie on.
type rig struct {
	*testing.T
	d *disk.Disk
	c *cache.Cache
	s *space.Space
	f *file.Files
	x *dir.Dirs
}

// rigOn is one on a disk, of which some sectors are in use.
func rigOn(t *testing.T, d *disk.Disk, inodes int, used, sectors []int) *rig {
	t.Helper()
	r := &rig{T: t, d: d}
	var e api.Errno
	if r.c, e = cache.New(d); e != api.OK {
		t.Fatalf("cache.New: %d", e)
	}
	if r.s, e = space.New(api.Super{Sectors: d.Len(), Inodes: inodes}, used, sectors); e != api.OK {
		t.Fatalf("space.New: %d", e)
	}
	if r.f, e = file.New(r.c, r.s); e != api.OK {
		t.Fatalf("file.New: %d", e)
	}
	if r.x, e = dir.New(r.c, r.f); e != api.OK || r.x == nil {
		t.Fatalf("New: %d", e)
	}
	return r
}

// rigOf is one on a new disk: inode 1 is an empty directory, inode 2 a file, nothing is dirty.
func rigOf(t *testing.T, sectors, inodes int) *rig {
	t.Helper()
	d, e := disk.New(sectors)
	if e != api.OK {
		t.Fatalf("disk.New: %d", e)
	}
	// A hole is no sector 0, which is neither an empty slot nor a table without pointers.
	super, e := layout.SuperSector(api.Super{Sectors: sectors, Inodes: inodes})
	if e != api.OK {
		t.Fatalf("SuperSector: %d", e)
	}
	write(t, d, 0, super)
	write(t, d, 1, inodeSector(t, api.Inode{Kind: api.KindDir, Links: 1}))
	write(t, d, 2, inodeSector(t, api.Inode{Kind: api.KindFile, Links: 1}))
	return rigOn(t, d, inodes, []int{1, 2}, nil)
}

// begin is what the chapter's examples have: 40 sectors, 4 inodes (data sectors 5 to 39).
func begin(t *testing.T) *rig {
	t.Helper()
	return rigOf(t, 40, 4)
}

// with is one whose directory 1 has these slots, all of which stand on the disk.
func with(t *testing.T, sectors int, slots ...api.Slot) *rig {
	t.Helper()
	r := rigOf(t, sectors, 4)
	for k, s := range slots {
		r.set(1, k, s)
	}
	r.sync()
	return r
}

func write(t *testing.T, d *disk.Disk, n int, s api.Sector) {
	t.Helper()
	if e := d.Write(n, s); e != api.OK {
		t.Fatalf("disk.Write(%d): %d", n, e)
	}
}

func inodeSector(t *testing.T, x api.Inode) api.Sector {
	t.Helper()
	s, e := layout.InodeSector(x)
	if e != api.OK {
		t.Fatalf("InodeSector(%+v): %d", x, e)
	}
	return s
}

func slotSector(t *testing.T, x api.Slot) api.Sector {
	t.Helper()
	s, e := layout.SlotSector(x)
	if e != api.OK {
		t.Fatalf("SlotSector(%+v): %d", x, e)
	}
	return s
}

func pointersSector(pointers map[int]int) api.Sector {
	var s api.Sector
	for place, n := range pointers {
		binary.LittleEndian.PutUint32(s[4*place:], uint32(n))
	}
	return s
}

// noSlot is a sector that is none: an empty slot has no byte.
func noSlot() api.Sector { return api.Sector{127: 1} }

// of is a slot.
func of(i int, name string) api.Slot { return api.Slot{Ino: i, Name: name} }

// none is an empty one.
var none = api.Slot{}

func (r *rig) is(what string, e, want api.Errno) {
	r.Helper()
	if e != want {
		r.Errorf("%s: %d, want %d", what, e, want)
	}
}

func (r *rig) sync() {
	r.Helper()
	r.is("Sync", r.c.Sync(), api.OK)
	r.is("Settle", r.f.Settle(), api.OK)
}

func (r *rig) flush(sectors ...int) {
	r.Helper()
	for _, n := range sectors {
		if yes, e := r.c.Flush(n); !yes || e != api.OK {
			r.Errorf("Flush(%d): %v, %d", n, yes, e)
		}
	}
}

func (r *rig) set(d, k int, s api.Slot, after ...int) {
	r.Helper()
	if e := r.x.Set(d, k, s, after...); e != api.OK {
		r.Errorf("Set(%d, %d, %+v, %v): %d", d, k, s, after, e)
	}
}

func (r *rig) slots(d int, want ...api.Slot) {
	r.Helper()
	if list, e := r.x.Slots(d); !slices.Equal(list, want) || e != api.OK {
		r.Errorf("Slots(%d): %+v, %d; want %+v", d, list, e, want)
	}
}

func (r *rig) found(d int, name string, k, i int) {
	r.Helper()
	if m, j, e := r.x.Find(d, name); m != k || j != i || e != api.OK {
		r.Errorf("Find(%d, %q): %d, %d, %d; want %d, %d", d, name, m, j, e, k, i)
	}
}

func (r *rig) missing(d int, names ...string) {
	r.Helper()
	for _, name := range names {
		if k, i, e := r.x.Find(d, name); k != 0 || i != 0 || e != api.ErrDirNone {
			r.Errorf("Find(%d, %q): %d, %d, %d", d, name, k, i, e)
		}
	}
}

func (r *rig) place(d, k, need int) {
	r.Helper()
	if m, n, e := r.x.Place(d); m != k || n != need || e != api.OK {
		r.Errorf("Place(%d): %d, %d, %d; want %d, %d", d, m, n, e, k, need)
	}
}

func (r *rig) sector(d, k, want int) {
	r.Helper()
	if n, e := r.x.Sector(d, k); n != want || e != api.OK {
		r.Errorf("Sector(%d, %d): %d, %d; want %d", d, k, n, e, want)
	}
}

func (r *rig) visible(d, k int, want ...int) {
	r.Helper()
	if list, e := r.x.Visible(d, k); !slices.Equal(list, want) || e != api.OK {
		r.Errorf("Visible(%d, %d): %v, %d; want %v", d, k, list, e, want)
	}
}

// edges are told as pre and post, in turns.
func (r *rig) edges(want ...int) {
	r.Helper()
	var list []int
	for _, e := range r.c.Edges() {
		list = append(list, e.Pre, e.Post)
	}
	if !slices.Equal(list, want) {
		r.Errorf("Edges: %v, want %v", list, want)
	}
}

func (r *rig) dirty(want ...int) {
	r.Helper()
	if list := r.c.Dirty(); !slices.Equal(list, want) {
		r.Errorf("Dirty: %v, want %v", list, want)
	}
}

// state is all that can be told of a rig.
type state struct {
	image  []api.Sector
	writes int
	read   []api.Sector
	dirty  []int
	edges  []api.Edge
	room   api.Room
}

// state tells it, and changes nothing.
func (r *rig) state() state {
	r.Helper()
	x := state{r.d.Image(), r.d.Writes(), nil, r.c.Dirty(), r.c.Edges(), r.s.Room()}
	for n := range r.d.Len() {
		s, e := r.c.Read(n)
		r.is("cache.Read", e, api.OK)
		x.read = append(x.read, s)
	}
	return x
}

func (x state) equals(y state) bool {
	return slices.Equal(x.image, y.image) && x.writes == y.writes && slices.Equal(x.read, y.read) && slices.Equal(x.dirty, y.dirty) && slices.Equal(x.edges, y.edges) && x.room == y.room
}

// unchanged holds a call to changing nothing.
func (r *rig) unchanged(what string, call func()) {
	r.Helper()
	before := r.state()
	call()
	if !r.state().equals(before) {
		r.Errorf("%s: something has changed", what)
	}
}

// refused holds all calls on a slot of a directory to an error, to zero values beside it, and to changing nothing; an error that is OK stands for a call that is not asked.
func (r *rig) refused(d, k int, s api.Slot, find, list, place, set, sector, visible api.Errno) {
	r.Helper()
	r.unchanged("a refused call", func() {
		r.Helper()
		if m, i, e := r.x.Find(d, "a"); find != api.OK && (m != 0 || i != 0 || e != find) {
			r.Errorf("Find(%d): %d, %d, %d; want %d", d, m, i, e, find)
		}
		if l, e := r.x.Slots(d); list != api.OK && (len(l) != 0 || e != list) {
			r.Errorf("Slots(%d): %v, %d; want %d", d, l, e, list)
		}
		if m, n, e := r.x.Place(d); place != api.OK && (m != 0 || n != 0 || e != place) {
			r.Errorf("Place(%d): %d, %d, %d; want %d", d, m, n, e, place)
		}
		if set != api.OK {
			r.is("Set", r.x.Set(d, k, s), set)
		}
		if n, e := r.x.Sector(d, k); sector != api.OK && (n != 0 || e != sector) {
			r.Errorf("Sector(%d, %d): %d, %d; want %d", d, k, n, e, sector)
		}
		if l, e := r.x.Visible(d, k); visible != api.OK && (len(l) != 0 || e != visible) {
			r.Errorf("Visible(%d, %d): %v, %d; want %d", d, k, l, e, visible)
		}
	})
}

// allRefused holds all of them to one error.
func (r *rig) allRefused(d, k int, s api.Slot, e api.Errno) {
	r.Helper()
	r.refused(d, k, s, e, e, e, e, e, e)
}

// steps answers numbers below a limit, the same ones in every run.
func steps(seed uint32) func(limit int) int {
	return func(limit int) int {
		seed = seed*1664525 + 1013904223
		return int(seed>>8) % limit
	}
}

const (
	minInt = -1 << 63
	maxInt = 1<<63 - 1
)
