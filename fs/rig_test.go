package fs_test

import (
	"fmt"
	"slices"
	"strconv"
	"strings"
	"testing"

	"breakwater/api"
	"breakwater/disk"
	"breakwater/fs"
)

const (
	minInt = -1 << 63
	maxInt = 1<<63 - 1
)

// rig is a file system, and the disk that it lies on.
type rig struct {
	*testing.T
	d *disk.Disk
	f *fs.FS
}

// newDisk is one of zeros.
func newDisk(t *testing.T, sectors int) *disk.Disk {
	t.Helper()
	d, e := disk.New(sectors)
	if e != api.OK {
		t.Fatalf("disk.New(%d): %d", sectors, e)
	}
	return d
}

// diskWith has an image, and nothing was written to it.
func diskWith(t *testing.T, image []api.Sector) *disk.Disk {
	t.Helper()
	d, e := disk.From(image)
	if e != api.OK {
		t.Fatalf("disk.From: %d", e)
	}
	return d
}

// rigOf is a file system that was just made.
func rigOf(t *testing.T, sectors, inodes int) *rig {
	t.Helper()
	d := newDisk(t, sectors)
	if e := fs.Mkfs(d, inodes); e != api.OK {
		t.Fatalf("Mkfs(%d): %d", inodes, e)
	}
	return rigOn(t, d)
}

// rigOn is the one that a disk has.
func rigOn(t *testing.T, d *disk.Disk) *rig {
	t.Helper()
	f, _, e := fs.Mount(d)
	if f == nil || e != api.OK {
		t.Fatalf("Mount: %d", e)
	}
	return &rig{t, d, f}
}

// begin is what the chapter's examples have: 40 sectors, 8 inodes (data sectors 9 to 39).
func begin(t *testing.T) *rig {
	t.Helper()
	return rigOf(t, 40, 8)
}

// The operations.

func create(path string) api.Op          { return api.Op{Kind: api.OpCreate, Path: path} }
func mkdir(path string) api.Op           { return api.Op{Kind: api.OpMkdir, Path: path} }
func link(path, to string) api.Op        { return api.Op{Kind: api.OpLink, Path: path, To: to} }
func unlink(path string) api.Op          { return api.Op{Kind: api.OpUnlink, Path: path} }
func rmdir(path string) api.Op           { return api.Op{Kind: api.OpRmdir, Path: path} }
func rename(path, to string) api.Op      { return api.Op{Kind: api.OpRename, Path: path, To: to} }
func truncate(path string, n int) api.Op { return api.Op{Kind: api.OpTruncate, Path: path, Off: n} }
func stat(path string) api.Op            { return api.Op{Kind: api.OpStat, Path: path} }
func list(path string) api.Op            { return api.Op{Kind: api.OpList, Path: path} }
func sync() api.Op                       { return api.Op{Kind: api.OpSync} }
func fsync(path string) api.Op           { return api.Op{Kind: api.OpFsync, Path: path} }
func flush(n int) api.Op                 { return api.Op{Kind: api.OpFlush, Pick: n} }

func read(path string, off, n int) api.Op {
	return api.Op{Kind: api.OpRead, Path: path, Off: off, Len: n}
}

func write(path string, off int, data []byte) api.Op {
	return api.Op{Kind: api.OpWrite, Path: path, Off: off, Data: data}
}

// sevens are so many bytes.
func sevens(n int) []byte { return slices.Repeat([]byte{7}, n) }

func count(k int) string { return "n" + strconv.Itoa(k) }

// aFile and aDir are entries.
func aFile(name string, i int) api.Entry { return api.Entry{Name: name, Ino: i, Kind: api.KindFile} }
func aDir(name string, i int) api.Entry  { return api.Entry{Name: name, Ino: i, Kind: api.KindDir} }

// equal tells whether two answers say the same.
func equal(a, b api.Answer) bool {
	return a.Code == b.Code && a.Stat == b.Stat && slices.Equal(a.Data, b.Data) && slices.Equal(a.Entries, b.Entries) && a.Landed == b.Landed
}

// say tells an operation shortly.
func say(o api.Op) string {
	data := ""
	if len(o.Data) > 0 {
		data = fmt.Sprintf(" data %d", len(o.Data))
	}
	o.Data = nil
	return fmt.Sprintf("%+v%s", o, data)
}

// is holds an operation to an answer.
func (r *rig) is(o api.Op, want api.Answer) {
	r.Helper()
	if a := r.f.Do(o); !equal(a, want) {
		r.Errorf("%s: %+v, want %+v", say(o), a, want)
	}
}

// ok holds operations to being done, those that answer nothing.
func (r *rig) ok(all ...api.Op) {
	r.Helper()
	for _, o := range all {
		r.is(o, api.Answer{})
	}
}

// made makes something, which is to have that inode.
func (r *rig) made(o api.Op, ino int) {
	r.Helper()
	r.is(o, api.Answer{Stat: api.Stat{Ino: ino, Kind: o.Kind, Links: 1, Made: o.Made}})
}

// no holds an operation to being refused: it answers nothing else, and changes nothing at all.
func (r *rig) no(o api.Op, want api.Errno) {
	r.Helper()
	before := r.state()
	r.is(o, api.Answer{Code: want})
	if r.state() != before {
		r.Errorf("%s: something has changed", say(o))
	}
}

// refuses is the same, but that what all questions tell is not asked, where that would be long.
func (r *rig) refuses(o api.Op, want api.Errno) {
	r.Helper()
	room, dirty, writes := r.f.Room(), r.f.Dirty(), r.d.Writes()
	r.is(o, api.Answer{Code: want})
	if r.f.Room() != room || !slices.Equal(r.f.Dirty(), dirty) || r.d.Writes() != writes {
		r.Errorf("%s: something has changed", say(o))
	}
}

// has holds a file to its bytes.
func (r *rig) has(path, want string) {
	r.Helper()
	r.is(read(path, 0, api.MaxData), api.Answer{Data: []byte(want)})
}

func (r *rig) lists(path string, want ...api.Entry) {
	r.Helper()
	r.is(list(path), api.Answer{Entries: want})
}

func (r *rig) stats(path string, want api.Stat) {
	r.Helper()
	r.is(stat(path), api.Answer{Stat: want})
}

func (r *rig) room(blocks, later, inodes int) {
	r.Helper()
	if x := r.f.Room(); x != (api.Room{Blocks: blocks, Later: later, Inodes: inodes}) {
		r.Errorf("Room: %+v, want %d, %d, %d", x, blocks, later, inodes)
	}
}

func (r *rig) dirty(want ...int) {
	r.Helper()
	if l := r.f.Dirty(); !slices.Equal(l, want) {
		r.Errorf("Dirty: %v, want %v", l, want)
	}
}

// lands holds sectors to landing, one behind the other.
func (r *rig) lands(sectors ...int) {
	r.Helper()
	for _, n := range sectors {
		r.writes(1, func() { r.is(flush(n), api.Answer{Landed: true}) })
	}
}

// waits holds sectors to not landing.
func (r *rig) waits(sectors ...int) {
	r.Helper()
	for _, n := range sectors {
		r.no(flush(n), api.OK)
	}
}

// writes holds what is done to writing so many sectors.
func (r *rig) writes(want int, what func()) {
	r.Helper()
	before := r.d.Writes()
	what()
	if n := r.d.Writes() - before; n != want {
		r.Errorf("%d writes, want %d", n, want)
	}
}

// again is what a Mount finds behind a loss of power.
func (r *rig) again() *rig {
	r.Helper()
	r.d.Restart()
	return rigOn(r.T, r.d)
}

// arm lets the power go behind so many writes.
func (r *rig) arm(writes int) {
	r.Helper()
	if e := r.d.Arm(writes); e != api.OK {
		r.Fatalf("Arm(%d): %d", writes, e)
	}
}

// told is all that questions tell, by paths.
func told(f *fs.FS) string {
	b := &strings.Builder{}
	queue := []string{"/"}
	for at := 0; at < len(queue); at++ {
		p := queue[at]
		s := f.Do(stat(p))
		fmt.Fprintf(b, "%s %+v\n", p, s)
		if s.Stat.Kind == api.KindFile {
			x := f.Do(read(p, 0, api.MaxData))
			fmt.Fprintf(b, "%d %x\n", x.Code, x.Data)
			continue
		}
		l := f.Do(list(p))
		fmt.Fprintf(b, "%d %+v\n", l.Code, l.Entries)
		for _, n := range l.Entries {
			queue = append(queue, strings.TrimSuffix(p, "/")+"/"+n.Name)
		}
	}
	return b.String()
}

// state is all that is told, and all that stands on the disk.
func (r *rig) state() string {
	return fmt.Sprintf("%s%+v %v\n%d %x", told(r.f), r.f.Room(), r.f.Dirty(), r.d.Writes(), r.d.Image())
}

// steps answers numbers below a limit, the same ones in every run.
func steps(seed uint32) func(limit int) int {
	return func(limit int) int {
		seed = seed*1664525 + 1013904223
		return int(seed>>8) % limit
	}
}
