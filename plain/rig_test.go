package plain_test

import (
	"fmt"
	"slices"
	"strconv"
	"strings"
	"testing"

	"breakwater/api"
	"breakwater/disk"
	"breakwater/fs"
	"breakwater/plain"
)

const (
	minInt = -1 << 63
	maxInt = 1<<63 - 1
)

// asker is a file system, of either kind.
type asker interface{ Do(api.Op) api.Answer }

// rig is a file system in memory, and one on a disk that is told the same.
type rig struct {
	*testing.T
	p *plain.Plain
	f *fs.FS
	d *disk.Disk
}

// plainOf is an empty one.
func plainOf(t *testing.T, sectors, inodes int) *plain.Plain {
	t.Helper()
	p, e := plain.New(sectors, inodes)
	if p == nil || e != api.OK {
		t.Fatalf("New(%d, %d): %d", sectors, inodes, e)
	}
	return p
}

// rigOf is an empty one, with another one on a disk.
func rigOf(t *testing.T, sectors, inodes int) *rig {
	t.Helper()
	d, e := disk.New(sectors)
	if e != api.OK {
		t.Fatalf("disk.New(%d): %d", sectors, e)
	}
	if e := fs.Mkfs(d, inodes); e != api.OK {
		t.Fatalf("Mkfs(%d): %d", inodes, e)
	}
	r := &rig{T: t, p: plainOf(t, sectors, inodes), d: d}
	r.mount()
	return r
}

// mount mounts what stands on the disk.
func (r *rig) mount() {
	r.Helper()
	f, _, e := fs.Mount(r.d)
	if e != api.OK {
		r.Fatalf("Mount: %d", e)
	}
	r.f = f
}

// begin is what the chapter's examples have: 40 sectors, 8 inodes, so 31 data sectors.
func begin(t *testing.T) *rig {
	t.Helper()
	return rigOf(t, 40, 8)
}

// wood is a used one: /a a file, /d with b a file and e a directory with f a file, /g an empty directory; 50 data sectors.
func wood(t *testing.T) *rig {
	t.Helper()
	r := rigOf(t, 60, 9)
	r.made(create("/a"), 2)
	r.made(mkdir("/d"), 3)
	r.made(create("/d/b"), 4)
	r.made(mkdir("/d/e"), 5)
	r.made(create("/d/e/f"), 6)
	r.made(mkdir("/g"), 7)
	return r
}

// The operations.

func create(path string) api.Op          { return api.Op{Kind: api.OpCreate, Path: path} }
func mkdir(path string) api.Op           { return api.Op{Kind: api.OpMkdir, Path: path} }
func link(path, to string) api.Op        { return api.Op{Kind: api.OpLink, Path: path, To: to} }
func unlink(path string) api.Op          { return api.Op{Kind: api.OpUnlink, Path: path} }
func rmdir(path string) api.Op           { return api.Op{Kind: api.OpRmdir, Path: path} }
func rename(path, to string) api.Op      { return api.Op{Kind: api.OpRename, Path: path, To: to} }
func truncate(path string, n int) api.Op { return api.Op{Kind: api.OpTruncate, Path: path, Off: n} }
func stat(path string) api.Op            { return api.Op{Kind: api.OpStat, Path: path} }
func list(path string) api.Op            { return api.Op{Kind: api.OpList, Path: path} }
func sync() api.Op                       { return api.Op{Kind: api.OpSync} }
func fsync(path string) api.Op           { return api.Op{Kind: api.OpFsync, Path: path} }
func flush(n int) api.Op                 { return api.Op{Kind: api.OpFlush, Pick: n} }

func read(path string, off, n int) api.Op {
	return api.Op{Kind: api.OpRead, Path: path, Off: off, Len: n}
}

func write(path string, off int, data []byte) api.Op {
	return api.Op{Kind: api.OpWrite, Path: path, Off: off, Data: data}
}

// sevens are so many bytes.
func sevens(n int) []byte { return slices.Repeat([]byte{7}, n) }

func count(k int) string { return "n" + strconv.Itoa(k) }

// aFile and aDir are entries.
func aFile(name string, i int) api.Entry { return api.Entry{Name: name, Ino: i, Kind: api.KindFile} }
func aDir(name string, i int) api.Entry  { return api.Entry{Name: name, Ino: i, Kind: api.KindDir} }

// equal tells whether two answers say the same.
func equal(a, b api.Answer) bool {
	return a.Code == b.Code && a.Stat == b.Stat && slices.Equal(a.Data, b.Data) && slices.Equal(a.Entries, b.Entries) && a.Landed == b.Landed
}

// say tells an operation shortly.
func say(o api.Op) string {
	data := ""
	if len(o.Data) > 0 {
		data = fmt.Sprintf(" data %d", len(o.Data))
	}
	o.Data = nil
	return fmt.Sprintf("%+v%s", o, data)
}

// do does an operation, and holds the answer and what room there is behind it to those of the one on a disk (P16.6).
func (r *rig) do(o api.Op) api.Answer {
	r.Helper()
	a, b := r.p.Do(o), r.f.Do(o)
	b.Landed = false
	if !equal(a, b) {
		r.Fatalf("%s: %+v, on a disk %+v", say(o), a, b)
	}
	x, y := r.p.Room(), r.f.Room()
	y.Later = 0
	if x != y {
		r.Fatalf("behind %s: Room %+v, on a disk %+v", say(o), x, y)
	}
	return a
}

// is holds an operation to an answer.
func (r *rig) is(o api.Op, want api.Answer) {
	r.Helper()
	if a := r.do(o); !equal(a, want) {
		r.Errorf("%s: %+v, want %+v", say(o), a, want)
	}
}

// ok holds operations to being done, those that answer nothing.
func (r *rig) ok(all ...api.Op) {
	r.Helper()
	for _, o := range all {
		r.is(o, api.Answer{})
	}
}

// made makes something, which is to have that inode.
func (r *rig) made(o api.Op, ino int) {
	r.Helper()
	r.is(o, api.Answer{Stat: api.Stat{Ino: ino, Kind: o.Kind, Links: 1, Made: o.Made}})
}

// no holds an operation to being answered so: nothing else is told, and nothing has changed.
func (r *rig) no(o api.Op, want api.Errno) {
	r.Helper()
	before := state(r.p)
	r.is(o, api.Answer{Code: want})
	if state(r.p) != before {
		r.Errorf("%s: something has changed", say(o))
	}
}

// has holds a file to its bytes.
func (r *rig) has(path, want string) {
	r.Helper()
	r.is(read(path, 0, api.MaxData), api.Answer{Data: []byte(want)})
}

func (r *rig) lists(path string, want ...api.Entry) {
	r.Helper()
	r.is(list(path), api.Answer{Entries: want})
}

func (r *rig) stats(path string, want api.Stat) {
	r.Helper()
	r.is(stat(path), api.Answer{Stat: want})
}

// sized holds a file's or directory's Size and Blocks.
func (r *rig) sized(path string, size, blocks int) {
	r.Helper()
	if a := r.do(stat(path)); a.Stat.Size != size || a.Stat.Blocks != blocks {
		r.Errorf("Stat %s: %+v, want size %d, blocks %d", path, a, size, blocks)
	}
}

func (r *rig) room(blocks, inodes int) {
	r.Helper()
	if x := r.p.Room(); x != (api.Room{Blocks: blocks, Inodes: inodes}) {
		r.Errorf("Room: %+v, want %d, %d", x, blocks, inodes)
	}
}

// fill lets a file take all but so many sectors of what is free; each block behind its own tables is written by itself.
func (r *rig) fill(path string, left int) {
	r.Helper()
	for k := 0; r.p.Room().Blocks > left; k++ {
		r.do(write(path, 128*k, sevens(1)))
	}
	if n := r.p.Room().Blocks; n != left {
		r.Fatalf("%d are left, want %d", n, left)
	}
}

// paths are those of all names that can be reached, the root ahead of them.
func paths(p asker) []string {
	all := []string{"/"}
	for at := 0; at < len(all); at++ {
		for _, n := range p.Do(list(all[at])).Entries {
			all = append(all, strings.TrimSuffix(all[at], "/")+"/"+n.Name)
		}
	}
	return all
}

// told is all that questions tell, by paths.
func told(p asker) string {
	b := &strings.Builder{}
	for _, s := range paths(p) {
		a := p.Do(stat(s))
		fmt.Fprintf(b, "%q %+v\n", s, a)
		if a.Stat.Kind == api.KindDir {
			l := p.Do(list(s))
			fmt.Fprintf(b, "%d %+v\n", l.Code, l.Entries)
			continue
		}
		for off := 0; off < a.Stat.Size; off += api.MaxData {
			x := p.Do(read(s, off, api.MaxData))
			fmt.Fprintf(b, "%d %x\n", x.Code, x.Data)
		}
	}
	return b.String()
}

// state is all that is told.
func state(p *plain.Plain) string { return fmt.Sprintf("%s%+v", told(p), p.Room()) }

// steps answers numbers below a limit, the same ones in every run.
func steps(seed uint32) func(limit int) int {
	return func(limit int) int {
		seed = seed*1664525 + 1013904223
		return int(seed>>8) % limit
	}
}
