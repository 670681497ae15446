package tree_test

import (
	"encoding/binary"
	"slices"
	"strconv"
	"testing"

	"breakwater/api"
	"breakwater/disk"
	"breakwater/layout"
	"breakwater/tree"
)

// rig is a tree, and the disk that it lies on.
type rig struct {
	*testing.T
	d *disk.Disk
	x *tree.Tree
}

// diskOf is one that was just made: the root is empty.
func diskOf(t *testing.T, sectors, inodes int) *disk.Disk {
	t.Helper()
	d, e := disk.New(sectors)
	if e != api.OK {
		t.Fatalf("disk.New: %d", e)
	}
	super, e := layout.SuperSector(api.Super{Sectors: sectors, Inodes: inodes})
	if e != api.OK {
		t.Fatalf("SuperSector: %d", e)
	}
	write(t, d, 0, super)
	write(t, d, 1, inodeSector(t, api.Inode{Kind: api.KindDir, Links: 1}))
	return d
}

// rigOf is a tree on such a disk.
func rigOf(t *testing.T, sectors, inodes int) *rig {
	t.Helper()
	return rigOn(t, diskOf(t, sectors, inodes), []int{1}, nil)
}

// rigOn is a tree on a disk of which some inodes and sectors are in use.
func rigOn(t *testing.T, d *disk.Disk, inodes, blocks []int) *rig {
	t.Helper()
	x, e := tree.New(d, api.Report{Inodes: inodes, Blocks: blocks})
	if x == nil || e != api.OK {
		t.Fatalf("New(%v, %v): %d", inodes, blocks, e)
	}
	return &rig{t, d, x}
}

// begin is what the chapter's examples have: 40 sectors, 4 inodes (data sectors 5 to 39).
func begin(t *testing.T) *rig {
	t.Helper()
	return rigOf(t, 40, 4)
}

func write(t *testing.T, d *disk.Disk, n int, s api.Sector) {
	t.Helper()
	if e := d.Write(n, s); e != api.OK {
		t.Fatalf("disk.Write(%d): %d", n, e)
	}
}

func inodeSector(t *testing.T, x api.Inode) api.Sector {
	t.Helper()
	s, e := layout.InodeSector(x)
	if e != api.OK {
		t.Fatalf("InodeSector(%+v): %d", x, e)
	}
	return s
}

func slotSector(t *testing.T, i int, name string) api.Sector {
	t.Helper()
	s, e := layout.SlotSector(api.Slot{Ino: i, Name: name})
	if e != api.OK {
		t.Fatalf("SlotSector(%d, %q): %d", i, name, e)
	}
	return s
}

func number(s api.Sector, at int) int { return int(binary.LittleEndian.Uint32(s[at:])) }

// aFile and aDir are entries.
func aFile(name string, i int) api.Entry { return api.Entry{Name: name, Ino: i, Kind: api.KindFile} }
func aDir(name string, i int) api.Entry  { return api.Entry{Name: name, Ino: i, Kind: api.KindDir} }

func (r *rig) is(what string, e, want api.Errno) {
	r.Helper()
	if e != want {
		r.Errorf("%s: %d, want %d", what, e, want)
	}
}

// file and dir make one, which is to have that inode.
func (r *rig) file(d int, name string, want int) { r.Helper(); r.made(d, name, api.KindFile, 0, want) }
func (r *rig) dir(d int, name string, want int)  { r.Helper(); r.made(d, name, api.KindDir, 0, want) }

func (r *rig) made(d int, name string, kind, made, want int) {
	r.Helper()
	if i, e := r.x.Make(d, name, kind, made); i != want || e != api.OK {
		r.Errorf("Make(%d, %q, %d, %d): %d, %d; want %d", d, name, kind, made, i, e, want)
	}
}

// files makes some with the names that count tells, in a directory.
func (r *rig) files(d, from, to int) {
	r.Helper()
	for k := from; k < to; k++ {
		if _, e := r.x.Make(d, count(k), api.KindFile, 0); e != api.OK {
			r.Fatalf("Make(%d, %q): %d", d, count(k), e)
		}
	}
}

// links gives a file such names.
func (r *rig) links(i, d, from, to int) {
	r.Helper()
	for k := from; k < to; k++ {
		if e := r.x.Link(i, d, count(k)); e != api.OK {
			r.Fatalf("Link(%d, %d, %q): %d", i, d, count(k), e)
		}
	}
}

func count(k int) string { return "n" + strconv.Itoa(k) }

func (r *rig) link(i, d int, name string) { r.Helper(); r.is("Link", r.x.Link(i, d, name), api.OK) }
func (r *rig) unlink(d int, name string)  { r.Helper(); r.is("Unlink", r.x.Unlink(d, name), api.OK) }
func (r *rig) rmdir(d int, name string)   { r.Helper(); r.is("Rmdir", r.x.Rmdir(d, name), api.OK) }
func (r *rig) rename(d int, a string, to int, b string) {
	r.Helper()
	r.is("Rename", r.x.Rename(d, a, to, b), api.OK)
}

func (r *rig) sync() {
	r.Helper()
	r.is("Sync", r.x.Cache().Sync(), api.OK)
	r.is("Settle", r.x.Files().Settle(), api.OK)
}

func (r *rig) flush(sectors ...int) {
	r.Helper()
	for _, n := range sectors {
		if yes, e := r.x.Cache().Flush(n); !yes || e != api.OK {
			r.Errorf("Flush(%d): %v, %d", n, yes, e)
		}
	}
}

func (r *rig) found(d int, name string, want int) {
	r.Helper()
	if i, e := r.x.Find(d, name); i != want || e != api.OK {
		r.Errorf("Find(%d, %q): %d, %d; want %d", d, name, i, e, want)
	}
}

func (r *rig) missing(d int, name string, want api.Errno) {
	r.Helper()
	if i, e := r.x.Find(d, name); i != 0 || e != want {
		r.Errorf("Find(%d, %q): %d, %d; want %d", d, name, i, e, want)
	}
}

func (r *rig) list(d int, want ...api.Entry) {
	r.Helper()
	if list, e := r.x.List(d); !slices.Equal(list, want) || e != api.OK {
		r.Errorf("List(%d): %+v, %d; want %+v", d, list, e, want)
	}
}

func (r *rig) stat(want api.Stat) {
	r.Helper()
	if s, e := r.x.Stat(want.Ino); s != want || e != api.OK {
		r.Errorf("Stat(%d): %+v, %d; want %+v", want.Ino, s, e, want)
	}
}

// links of an inode.
func (r *rig) hasLinks(i, want int) {
	r.Helper()
	if s, e := r.x.Stat(i); s.Links != want || e != api.OK {
		r.Errorf("Stat(%d): %+v, %d; want %d links", i, s, e, want)
	}
}

func (r *rig) gone(i int) {
	r.Helper()
	if s, e := r.x.Stat(i); s != (api.Stat{}) || e != api.ErrFileInode {
		r.Errorf("Stat(%d): %+v, %d; want %d", i, s, e, api.ErrFileInode)
	}
}

// edges are told as pre and post, in turns.
func (r *rig) edges(want ...int) {
	r.Helper()
	var list []int
	for _, e := range r.x.Cache().Edges() {
		list = append(list, e.Pre, e.Post)
	}
	if !slices.Equal(list, want) {
		r.Errorf("Edges: %v, want %v", list, want)
	}
}

func (r *rig) dirty(want ...int) {
	r.Helper()
	if list := r.x.Cache().Dirty(); !slices.Equal(list, want) {
		r.Errorf("Dirty: %v, want %v", list, want)
	}
}

func (r *rig) room(blocks, later, inodes int) {
	r.Helper()
	if x := r.x.Files().Room(); x != (api.Room{Blocks: blocks, Later: later, Inodes: inodes}) {
		r.Errorf("Room: %+v, want %d, %d, %d", x, blocks, later, inodes)
	}
}

// writes holds a call to writing so many sectors.
func (r *rig) writes(what string, want int, call func()) {
	r.Helper()
	before := r.d.Writes()
	call()
	if n := r.d.Writes() - before; n != want {
		r.Errorf("%s: %d writes, want %d", what, n, want)
	}
}

// state is all that can be told of a tree.
type state struct {
	image  []api.Sector
	writes int
	read   []api.Sector
	dirty  []int
	edges  []api.Edge
	room   api.Room
}

// stateOf tells it, and changes nothing.
func (r *rig) state() state {
	r.Helper()
	c := r.x.Cache()
	x := state{r.d.Image(), r.d.Writes(), nil, c.Dirty(), c.Edges(), r.x.Files().Room()}
	for n := range r.d.Len() {
		s, e := c.Read(n)
		r.is("cache.Read", e, api.OK)
		x.read = append(x.read, s)
	}
	return x
}

func (x state) equals(y state) bool {
	return slices.Equal(x.image, y.image) && x.writes == y.writes && slices.Equal(x.read, y.read) && slices.Equal(x.dirty, y.dirty) && slices.Equal(x.edges, y.edges) && x.room == y.room
}

// unchanged holds a call to changing nothing.
func (r *rig) unchanged(what string, call func()) {
	r.Helper()
	before := r.state()
	call()
	if !r.state().equals(before) {
		r.Errorf("%s: something has changed", what)
	}
}

// The calls, each held to an error and to changing nothing.

func (r *rig) noMake(d int, name string, kind, made int, want api.Errno) {
	r.Helper()
	r.unchanged("Make", func() {
		r.Helper()
		if i, e := r.x.Make(d, name, kind, made); i != 0 || e != want {
			r.Errorf("Make(%d, %q, %d, %d): %d, %d; want %d", d, name, kind, made, i, e, want)
		}
	})
}

func (r *rig) noLink(i, d int, name string, want api.Errno) {
	r.Helper()
	r.unchanged("Link", func() {
		r.Helper()
		if e := r.x.Link(i, d, name); e != want {
			r.Errorf("Link(%d, %d, %q): %d, want %d", i, d, name, e, want)
		}
	})
}

func (r *rig) noUnlink(d int, name string, want api.Errno) {
	r.Helper()
	r.unchanged("Unlink", func() {
		r.Helper()
		if e := r.x.Unlink(d, name); e != want {
			r.Errorf("Unlink(%d, %q): %d, want %d", d, name, e, want)
		}
	})
}

func (r *rig) noRmdir(d int, name string, want api.Errno) {
	r.Helper()
	r.unchanged("Rmdir", func() {
		r.Helper()
		if e := r.x.Rmdir(d, name); e != want {
			r.Errorf("Rmdir(%d, %q): %d, want %d", d, name, e, want)
		}
	})
}

// noRename is also asked for what is answered OK, and does nothing.
func (r *rig) noRename(from int, old string, to int, name string, want api.Errno) {
	r.Helper()
	r.unchanged("Rename", func() {
		r.Helper()
		if e := r.x.Rename(from, old, to, name); e != want {
			r.Errorf("Rename(%d, %q, %d, %q): %d, want %d", from, old, to, name, e, want)
		}
	})
}

// badNames are such as path refuses.
func badNames() []string {
	return []string{"", ".", "..", "/", "a/b", "a/", "/a", "a\x00", "\x00", "12345678901234567890123456789012345678901"}
}

// goodNames are at the ends of what may be.
func goodNames() []string {
	return []string{"...", "a", "\xff\x01", " ", "-", "1234567890123456789012345678901234567890"}
}

// noInodes are numbers that no inode in use has, of 4, of which 1 to 3 are.
func noInodes() []int {
	return []int{0, 4, 5, -1, -2, 39, 40, 512, 513, 1<<32 + 1, -1<<32 + 1, minInt, maxInt}
}

// steps answers numbers below a limit, the same ones in every run.
func steps(seed uint32) func(limit int) int {
	return func(limit int) int {
		seed = seed*1664525 + 1013904223
		return int(seed>>8) % limit
	}
}

const (
	minInt = -1 << 63
	maxInt = 1<<63 - 1
)
