package share_test

import (
	"bytes"
	"fmt"
	"slices"
	"strings"
	"testing"

	"breakwater/api"
	"breakwater/disk"
	"breakwater/fs"
	"breakwater/plain"
	"breakwater/share"
)

const (
	minInt = -1 << 63
	maxInt = 1<<63 - 1
)

// asker is whatever does operations.
type asker interface{ Do(api.Op) api.Answer }

// rig is a file system that is shared, and the disk that it lies on. f is asked for its room and what is dirty alone.
type rig struct {
	*testing.T
	d *disk.Disk
	f *fs.FS
	s *share.Shared
}

// mounted is the file system that a disk has.
func mounted(t *testing.T, d *disk.Disk) *fs.FS {
	t.Helper()
	f, _, e := fs.Mount(d)
	if f == nil || e != api.OK {
		t.Fatalf("Mount: %d", e)
	}
	return f
}

// shared is a file system, shared.
func shared(t *testing.T, f *fs.FS) *share.Shared {
	t.Helper()
	s, e := share.New(f)
	if s == nil || e != api.OK {
		t.Fatalf("New: %d", e)
	}
	return s
}

// madeDisk is a disk on which an empty file system was made.
func madeDisk(t *testing.T, sectors, inodes int) *disk.Disk {
	t.Helper()
	d, e := disk.New(sectors)
	if e != api.OK {
		t.Fatalf("disk.New(%d): %d", sectors, e)
	}
	if e := fs.Mkfs(d, inodes); e != api.OK {
		t.Fatalf("Mkfs(%d): %d", inodes, e)
	}
	return d
}

// rigOn is what a disk has, shared.
func rigOn(t *testing.T, d *disk.Disk) *rig {
	t.Helper()
	f := mounted(t, d)
	return &rig{t, d, f, shared(t, f)}
}

// rigOf is an empty one.
func rigOf(t *testing.T, sectors, inodes int) *rig {
	t.Helper()
	return rigOn(t, madeDisk(t, sectors, inodes))
}

// begin is what the chapter's examples have: /a, of three bytes, and the directory /d.
func begin(t *testing.T) *rig {
	t.Helper()
	r := rigOf(t, 40, 8)
	r.done(create("/a"), write("/a", 0, "xyz"), mkdir("/d"))
	return r
}

// wood is a used one: files, directories, a file with two names, one with holes, names that a table leads to; some of it has not landed.
func wood(t *testing.T) *rig {
	t.Helper()
	r := rigOf(t, 200, 60)
	r.done(create("/a"), write("/a", 0, some(300)), mkdir("/d"), mkdir("/d/e"), create("/d/e/f"), create("/h"), write("/h", 1700, "end"), link("/a", "/d/l"))
	for k := range 20 {
		r.done(create("/d/" + count(k)))
	}
	r.done(syncAll(), write("/a", 100, "new"), mkdir("/g"), unlink("/d/n3"), truncate("/h", 1800))
	return r
}

// The operations.

func create(path string) api.Op          { return api.Op{Kind: api.OpCreate, Path: path} }
func mkdir(path string) api.Op           { return api.Op{Kind: api.OpMkdir, Path: path} }
func link(path, to string) api.Op        { return api.Op{Kind: api.OpLink, Path: path, To: to} }
func unlink(path string) api.Op          { return api.Op{Kind: api.OpUnlink, Path: path} }
func rmdir(path string) api.Op           { return api.Op{Kind: api.OpRmdir, Path: path} }
func rename(path, to string) api.Op      { return api.Op{Kind: api.OpRename, Path: path, To: to} }
func truncate(path string, n int) api.Op { return api.Op{Kind: api.OpTruncate, Path: path, Off: n} }
func stat(path string) api.Op            { return api.Op{Kind: api.OpStat, Path: path} }
func list(path string) api.Op            { return api.Op{Kind: api.OpList, Path: path} }
func syncAll() api.Op                    { return api.Op{Kind: api.OpSync} }
func fsync(path string) api.Op           { return api.Op{Kind: api.OpFsync, Path: path} }
func flush(n int) api.Op                 { return api.Op{Kind: api.OpFlush, Pick: n} }

func read(path string, off, n int) api.Op {
	return api.Op{Kind: api.OpRead, Path: path, Off: off, Len: n}
}

func write(path string, off int, data string) api.Op {
	return api.Op{Kind: api.OpWrite, Path: path, Off: off, Data: []byte(data)}
}

func aFile(name string, i int) api.Entry { return api.Entry{Name: name, Ino: i, Kind: api.KindFile} }
func aDir(name string, i int) api.Entry  { return api.Entry{Name: name, Ino: i, Kind: api.KindDir} }

func count(k int) string { return fmt.Sprintf("n%d", k) }

// some are so many bytes, no two neighbours of which are alike.
func some(n int) string {
	b := make([]byte, n)
	for k := range b {
		b[k] = byte(1 + k%251)
	}
	return string(b)
}

// equal tells whether two answers say the same.
func equal(a, b api.Answer) bool {
	return a.Code == b.Code && a.Stat == b.Stat && bytes.Equal(a.Data, b.Data) && slices.Equal(a.Entries, b.Entries) && a.Landed == b.Landed
}

// refused is the answer that tells an error, and nothing else.
func refused(e api.Errno) api.Answer { return api.Answer{Code: e} }

// say tells an operation shortly.
func say(o api.Op) string {
	data := fmt.Sprintf(" data %d", len(o.Data))
	o.Data = nil
	return fmt.Sprintf("%+v%s", o, data)
}

// done does operations, none of which may be refused.
func (r *rig) done(ops ...api.Op) {
	r.Helper()
	for _, o := range ops {
		if a := r.s.Do(o); a.Code != api.OK {
			r.Fatalf("%s: %d", say(o), a.Code)
		}
	}
}

// is holds a Do to an answer.
func (r *rig) is(o api.Op, want api.Answer) {
	r.Helper()
	if a := r.s.Do(o); !equal(a, want) {
		r.Errorf("Do of %s: %+v, want %+v", say(o), a, want)
	}
}

// each is an Each that must not be refused.
func (r *rig) each(ops ...api.Op) []api.Answer {
	r.Helper()
	l, e := r.s.Each(ops...)
	if e != api.OK || len(l) != len(ops) {
		r.Fatalf("Each of %d: %d answers, %d", len(ops), len(l), e)
	}
	return l
}

// tells holds an Each to answers.
func (r *rig) tells(ops []api.Op, want ...api.Answer) {
	r.Helper()
	for k, a := range r.each(ops...) {
		if !equal(a, want[k]) {
			r.Errorf("Each of %d: at place %d: %s: %+v, want %+v", len(ops), k, say(ops[k]), a, want[k])
		}
	}
}

// no holds an Each to being refused: nothing is told then, and nothing is changed.
func (r *rig) no(want api.Errno, ops ...api.Op) {
	r.Helper()
	before := r.outside()
	if l, e := r.s.Each(ops...); len(l) > 0 || e != want {
		r.Errorf("Each of %d: %d answers, %d, want %d", len(ops), len(l), e, want)
	}
	if r.outside() != before {
		r.Errorf("Each of %d is refused, and something has changed", len(ops))
	}
}

// byDo are the answers to operations, one behind the other.
func byDo(a asker, ops ...api.Op) []api.Answer {
	var all []api.Answer
	for _, o := range ops {
		all = append(all, a.Do(o))
	}
	return all
}

// lose lets the power go at somebody else's write, so that the file system lives on till it finds out.
func (r *rig) lose() {
	r.Helper()
	r.arm(0)
	if e := r.d.Write(0, api.Sector{}); e != api.ErrDiskDown {
		r.Fatalf("Write: %d", e)
	}
}

// arm lets the power go behind so many writes.
func (r *rig) arm(writes int) {
	r.Helper()
	if e := r.d.Arm(writes); e != api.OK {
		r.Fatalf("Arm(%d): %d", writes, e)
	}
}

// outside is what is seen without a question.
func (r *rig) outside() string {
	return fmt.Sprintf("%+v %v %d %x", r.f.Room(), r.f.Dirty(), r.d.Writes(), r.d.Image())
}

// told is all that questions tell, by paths.
func told(a asker) string {
	b := &strings.Builder{}
	queue := []string{"/"}
	for at := 0; at < len(queue); at++ {
		p := queue[at]
		s := a.Do(stat(p))
		fmt.Fprintf(b, "%s %+v\n", p, s)
		if s.Stat.Kind == api.KindFile {
			x := a.Do(read(p, 0, api.MaxData))
			fmt.Fprintf(b, "%d %x\n", x.Code, x.Data)
			continue
		}
		l := a.Do(list(p))
		fmt.Fprintf(b, "%d %+v\n", l.Code, l.Entries)
		for _, n := range l.Entries {
			queue = append(queue, strings.TrimSuffix(p, "/")+"/"+n.Name)
		}
	}
	return b.String()
}

// inMemory is an empty one without a disk.
func inMemory(t *testing.T, sectors, inodes int) *plain.Plain {
	t.Helper()
	p, e := plain.New(sectors, inodes)
	if p == nil || e != api.OK {
		t.Fatalf("plain.New(%d, %d): %d", sectors, inodes, e)
	}
	return p
}

// steps answers numbers below a limit, the same ones in every run.
func steps(seed uint32) func(limit int) int {
	return func(limit int) int {
		seed = seed*1664525 + 1013904223
		return int(seed>>8) % limit
	}
}
