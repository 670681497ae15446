package file_test

import (
	"bytes"
	"slices"
	"testing"

	"breakwater/api"
	"breakwater/cache"
	"breakwater/disk"
	"breakwater/file"
	"breakwater/space"
)

// rig is files, and all that they lie on.
type rig struct {
	*testing.T
	d *disk.Disk
	c *cache.Cache
	s *space.Space
	f *file.Files
}

// rigOf is one on a new disk.
func rigOf(t *testing.T, sectors, inodes int) *rig {
	t.Helper()
	d, e := disk.New(sectors)
	if e != api.OK {
		t.Fatalf("disk.New: %d", e)
	}
	c, e := cache.New(d)
	if e != api.OK {
		t.Fatalf("cache.New: %d", e)
	}
	s, e := space.New(api.Super{Sectors: sectors, Inodes: inodes}, nil, nil)
	if e != api.OK {
		t.Fatalf("space.New: %d", e)
	}
	f, e := file.New(c, s)
	if e != api.OK || f == nil {
		t.Fatalf("New: %d", e)
	}
	return &rig{t, d, c, s, f}
}

// begin is what the chapter's examples have: 64 sectors, 8 inodes (data sectors 9 to 63), inode 2 a file without bytes.
func begin(t *testing.T) *rig {
	t.Helper()
	r := rigOf(t, 64, 8)
	r.make(api.KindFile)
	return r
}

// synced is the same with nothing dirty.
func synced(t *testing.T) *rig {
	t.Helper()
	r := begin(t)
	r.sync()
	return r
}

func (r *rig) is(what string, e, want api.Errno) {
	r.Helper()
	if e != want {
		r.Errorf("%s: %d, want %d", what, e, want)
	}
}

// make makes a file or a directory.
func (r *rig) make(kind int) int {
	r.Helper()
	i, e := r.s.TakeInode()
	r.is("TakeInode", e, api.OK)
	r.is("Put", r.f.Put(i, api.Inode{Kind: kind, Links: 1, Made: 100 + i}), api.OK)
	return i
}

func (r *rig) sync() {
	r.Helper()
	r.is("Sync", r.c.Sync(), api.OK)
	r.is("Settle", r.f.Settle(), api.OK)
}

func (r *rig) inode(i int) api.Inode {
	r.Helper()
	x, e := r.f.Inode(i)
	r.is("Inode", e, api.OK)
	return x
}

func (r *rig) count(i, want int) {
	r.Helper()
	if n, e := r.f.Count(i); n != want || e != api.OK {
		r.Errorf("Count(%d): %d, %d; want %d", i, n, e, want)
	}
}

func (r *rig) reads(i, off, n int, want []byte) {
	r.Helper()
	if b, e := r.f.Read(i, off, n); !bytes.Equal(b, want) || e != api.OK {
		r.Errorf("Read(%d, %d, %d): %v, %d; want %v", i, off, n, b, e, want)
	}
}

func (r *rig) write(i, off int, data ...byte) {
	r.Helper()
	r.is("Write", r.f.Write(i, off, data), api.OK)
}

func (r *rig) truncate(i, size int) {
	r.Helper()
	r.is("Truncate", r.f.Truncate(i, size), api.OK)
}

func (r *rig) lay(i, size int, list ...api.Block) {
	r.Helper()
	r.is("Lay", r.f.Lay(i, size, list...), api.OK)
}

// edges are told as pre and post, in turns.
func (r *rig) edges(want ...int) {
	r.Helper()
	var list []int
	for _, e := range r.c.Edges() {
		list = append(list, e.Pre, e.Post)
	}
	if !slices.Equal(list, want) {
		r.Errorf("Edges: %v, want %v", list, want)
	}
}

func (r *rig) dirty(want ...int) {
	r.Helper()
	if list := r.c.Dirty(); !slices.Equal(list, want) {
		r.Errorf("Dirty: %v, want %v", list, want)
	}
}

func (r *rig) room(blocks, later, inodes int) {
	r.Helper()
	if x, want := r.f.Room(), (api.Room{Blocks: blocks, Later: later, Inodes: inodes}); x != want {
		r.Errorf("Room: %+v, want %+v", x, want)
	}
}

// landed holds tags to what they should be, in whatever order they stand.
func (r *rig) landed(want ...int) {
	r.Helper()
	if list := slices.Sorted(slices.Values(r.c.Landed())); !slices.Equal(list, want) {
		r.Errorf("Landed: %v, want %v", list, want)
	}
}

func (r *rig) flush(sectors ...int) {
	r.Helper()
	for _, n := range sectors {
		if yes, e := r.c.Flush(n); !yes || e != api.OK {
			r.Errorf("Flush(%d): %v, %d", n, yes, e)
		}
	}
}

// state is all that can be told of a rig.
type state struct {
	image  []api.Sector
	writes int
	read   []api.Sector
	dirty  []int
	edges  []api.Edge
	room   api.Room
}

// state tells it, and changes nothing: what has landed is not asked for.
func (r *rig) state() state {
	r.Helper()
	x := state{r.d.Image(), r.d.Writes(), nil, r.c.Dirty(), r.c.Edges(), r.s.Room()}
	for n := range r.d.Len() {
		s, e := r.c.Read(n)
		r.is("cache.Read", e, api.OK)
		x.read = append(x.read, s)
	}
	return x
}

func (x state) equals(y state) bool {
	return slices.Equal(x.image, y.image) && x.writes == y.writes && slices.Equal(x.read, y.read) && slices.Equal(x.dirty, y.dirty) && slices.Equal(x.edges, y.edges) && x.room == y.room
}

// refused holds a call to an error, and to having changed nothing.
func (r *rig) refused(what string, want api.Errno, call func() api.Errno) {
	r.Helper()
	before := r.state()
	r.is(what, call(), want)
	if !r.state().equals(before) {
		r.Errorf("%s: something has changed", what)
	}
}

// full is a sector whose bytes are all the same.
func full(v byte) api.Sector {
	var s api.Sector
	for i := range s {
		s[i] = v
	}
	return s
}

// block is one full of a byte.
func block(index int, v byte, after ...int) api.Block {
	return api.Block{Index: index, Data: full(v), After: after}
}

// zeros are so many.
func zeros(n int) []byte { return make([]byte, n) }

// filled are bytes of which no sector is as another.
func filled(n, seed int) []byte {
	b := make([]byte, n)
	for i := range b {
		b[i] = byte(1 + (i*7+i/128*13+seed*31)%255)
	}
	return b
}

// steps answers numbers below a limit, the same ones in every run.
func steps(seed uint32) func(limit int) int {
	return func(limit int) int {
		seed = seed*1664525 + 1013904223
		return int(seed>>8) % limit
	}
}

const (
	minInt = -1 << 63
	maxInt = 1<<63 - 1
)
