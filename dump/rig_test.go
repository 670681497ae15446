package dump_test

import (
	"bytes"
	"fmt"
	"slices"
	"strings"
	"testing"

	"breakwater/api"
	"breakwater/disk"
	"breakwater/dump"
	"breakwater/fs"
	"breakwater/plain"
)

const (
	minInt = -1 << 63
	maxInt = 1<<63 - 1
)

// system is a file system, of either kind.
type system interface {
	dump.Asker
	Room() api.Room
}

// inMemory is an empty one without a disk.
func inMemory(t *testing.T, sectors, inodes int) *plain.Plain {
	t.Helper()
	p, e := plain.New(sectors, inodes)
	if p == nil || e != api.OK {
		t.Fatalf("plain.New(%d, %d): %d", sectors, inodes, e)
	}
	return p
}

// made is a disk on which an empty file system was made.
func made(t *testing.T, sectors, inodes int) *disk.Disk {
	t.Helper()
	d, e := disk.New(sectors)
	if e != api.OK {
		t.Fatalf("disk.New(%d): %d", sectors, e)
	}
	if e := fs.Mkfs(d, inodes); e != api.OK {
		t.Fatalf("Mkfs(%d): %d", inodes, e)
	}
	return d
}

// mounted is the file system that a disk has.
func mounted(t *testing.T, d *disk.Disk) *fs.FS {
	t.Helper()
	f, _, e := fs.Mount(d)
	if f == nil || e != api.OK {
		t.Fatalf("Mount: %d", e)
	}
	return f
}

// onDisk is an empty one on a disk.
func onDisk(t *testing.T, sectors, inodes int) *fs.FS {
	t.Helper()
	return mounted(t, made(t, sectors, inodes))
}

// empties are an empty one of each kind.
func empties(t *testing.T, sectors, inodes int) []system {
	t.Helper()
	return []system{inMemory(t, sectors, inodes), onDisk(t, sectors, inodes)}
}

// teller notes what it is asked and what was answered, and lets another one answer. One of its calls may fail.
type teller struct {
	dump.Asker
	ops     []api.Op
	answers []api.Answer
	fail    int // which call is answered by code, and not done: counted from 1 on; 0: none
	code    api.Errno
}

func (x *teller) Do(o api.Op) api.Answer {
	kept := o
	kept.Data = slices.Clone(o.Data)
	x.ops = append(x.ops, kept)
	a := api.Answer{Code: x.code}
	if len(x.ops) != x.fail {
		a = x.Asker.Do(o)
	}
	x.answers = append(x.answers, a)
	return a
}

// The operations.

func create(path string, made int) api.Op {
	return api.Op{Kind: api.OpCreate, Path: path, Made: made}
}

func mkdir(path string, made int) api.Op { return api.Op{Kind: api.OpMkdir, Path: path, Made: made} }
func link(path, to string) api.Op        { return api.Op{Kind: api.OpLink, Path: path, To: to} }
func unlink(path string) api.Op          { return api.Op{Kind: api.OpUnlink, Path: path} }
func rmdir(path string) api.Op           { return api.Op{Kind: api.OpRmdir, Path: path} }
func rename(path, to string) api.Op      { return api.Op{Kind: api.OpRename, Path: path, To: to} }
func truncate(path string, n int) api.Op { return api.Op{Kind: api.OpTruncate, Path: path, Off: n} }
func stat(path string) api.Op            { return api.Op{Kind: api.OpStat, Path: path} }
func list(path string) api.Op            { return api.Op{Kind: api.OpList, Path: path} }
func sync() api.Op                       { return api.Op{Kind: api.OpSync} }
func flush(n int) api.Op                 { return api.Op{Kind: api.OpFlush, Pick: n} }

func read(path string, off, n int) api.Op {
	return api.Op{Kind: api.OpRead, Path: path, Off: off, Len: n}
}

func write(path string, off int, data []byte) api.Op {
	return api.Op{Kind: api.OpWrite, Path: path, Off: off, Data: data}
}

// The nodes.

func aDir(path string, made int) api.Node { return api.Node{Path: path, Kind: api.KindDir, Made: made} }

func aFile(path string, made int, data string) api.Node {
	return api.Node{Path: path, Kind: api.KindFile, Made: made, Data: []byte(data)}
}

func aName(path string, made int, same string) api.Node {
	return api.Node{Path: path, Kind: api.KindFile, Made: made, Same: same}
}

// some are so many bytes, no piece of which is all zeros, nor any like its neighbour.
func some(n int) string {
	b := make([]byte, n)
	for k := range b {
		b[k] = byte(1 + k%7 + k/128%100)
	}
	return string(b)
}

func zeros(n int) string { return strings.Repeat("\x00", n) }

// done does operations, none of which may be refused.
func done(t *testing.T, a dump.Asker, ops ...api.Op) {
	t.Helper()
	for _, o := range ops {
		if x := a.Do(o); x.Code != api.OK {
			t.Fatalf("%s: %d", say(o), x.Code)
		}
	}
}

// say tells an operation shortly.
func say(o api.Op) string {
	data := ""
	if len(o.Data) > 0 {
		data = fmt.Sprintf(" data %d", len(o.Data))
	}
	o.Data = nil
	return fmt.Sprintf("%+v%s", o, data)
}

// sayAll tells operations shortly, a line each.
func sayAll(ops []api.Op) string {
	b := &strings.Builder{}
	for _, o := range ops {
		b.WriteString("\n\t" + say(o))
	}
	return b.String()
}

// sayNodes tells nodes shortly, a line each.
func sayNodes(nodes []api.Node) string {
	b := &strings.Builder{}
	for _, n := range nodes {
		fmt.Fprintf(b, "\n\t%q %d %d %q, %d bytes", n.Path, n.Kind, n.Made, n.Same, len(n.Data))
	}
	return b.String()
}

func sameOp(a, b api.Op) bool {
	same := bytes.Equal(a.Data, b.Data)
	a.Data, b.Data = nil, nil
	return same && fmt.Sprint(a) == fmt.Sprint(b)
}

func sameNode(a, b api.Node) bool {
	return a.Path == b.Path && a.Kind == b.Kind && a.Made == b.Made && a.Same == b.Same && bytes.Equal(a.Data, b.Data)
}

func sameNodes(a, b []api.Node) bool { return slices.EqualFunc(a, b, sameNode) }

// deep is a copy of nodes that shares nothing with them.
func deep(nodes []api.Node) []api.Node {
	c := slices.Clone(nodes)
	for k := range c {
		c[k].Data = slices.Clone(c[k].Data)
	}
	return c
}

// asked holds what a teller was asked to what it should have been.
func asked(t *testing.T, x *teller, want ...api.Op) {
	t.Helper()
	if !slices.EqualFunc(x.ops, want, sameOp) {
		t.Errorf("asked:%s\nwant:%s", sayAll(x.ops), sayAll(want))
	}
}

// dumps is a Dump that must be answered.
func dumps(t *testing.T, a dump.Asker) []api.Node {
	t.Helper()
	nodes, e := dump.Dump(a)
	if e != api.OK {
		t.Fatalf("Dump: %d", e)
	}
	return nodes
}

// tells holds a Dump to nodes.
func tells(t *testing.T, a dump.Asker, want ...api.Node) {
	t.Helper()
	if nodes := dumps(t, a); !sameNodes(nodes, want) {
		t.Errorf("Dump:%s\nwant:%s", sayNodes(nodes), sayNodes(want))
	}
}

// refuses holds a Dump to an error, beside which there are no nodes.
func refuses(t *testing.T, a dump.Asker, want api.Errno) {
	t.Helper()
	if nodes, e := dump.Dump(a); len(nodes) > 0 || e != want {
		t.Errorf("Dump: %d nodes, %d, want %d", len(nodes), e, want)
	}
}

// fills holds a Fill to how many were made, and an error.
func fills(t *testing.T, a dump.Asker, made int, want api.Errno, nodes ...api.Node) {
	t.Helper()
	if n, e := dump.Fill(a, nodes...); n != made || e != want {
		t.Errorf("Fill of%s\n%d, %d, want %d, %d", sayNodes(nodes), n, e, made, want)
	}
}

// paths are those of all names that can be reached.
func paths(a dump.Asker) []string {
	var all []string
	queue := []string{"/"}
	for at := 0; at < len(queue); at++ {
		for _, n := range a.Do(list(queue[at])).Entries {
			p := strings.TrimSuffix(queue[at], "/") + "/" + n.Name
			all = append(all, p)
			if n.Kind == api.KindDir {
				queue = append(queue, p)
			}
		}
	}
	return all
}

// bytesOf are all of a file's, read in small pieces.
func bytesOf(a dump.Asker, path string) []byte {
	var all []byte
	for {
		data := a.Do(read(path, len(all), 5000)).Data
		if len(data) == 0 {
			return all
		}
		all = append(all, data...)
	}
}

// told is what a Dump should tell, found in another way: all paths ahead of all else, sorted name by name.
func told(a dump.Asker) []api.Node {
	all := paths(a)
	slices.SortFunc(all, func(x, y string) int { return slices.Compare(strings.Split(x, "/"), strings.Split(y, "/")) })
	var nodes []api.Node
	inodes := make([]string, api.MaxInodes+1)
	for _, p := range all {
		s := a.Do(stat(p)).Stat
		n := api.Node{Path: p, Kind: s.Kind, Made: s.Made, Same: inodes[s.Ino]}
		if s.Kind == api.KindFile && n.Same == "" {
			n.Data = bytesOf(a, p)
			inodes[s.Ino] = p
		}
		nodes = append(nodes, n)
	}
	return nodes
}

// sectorsOf is how many all have that can be reached, the root too.
func sectorsOf(a dump.Asker) int {
	sum := 0
	inodes := map[int]struct{}{}
	for _, p := range append(paths(a), "/") {
		s := a.Do(stat(p)).Stat
		if _, counted := inodes[s.Ino]; !counted {
			inodes[s.Ino] = struct{}{}
			sum += s.Blocks
		}
	}
	return sum
}

// steps answers numbers below a limit, the same ones in every run.
func steps(seed uint32) func(limit int) int {
	return func(limit int) int {
		seed = seed*1664525 + 1013904223
		return int(seed>>8) % limit
	}
}
