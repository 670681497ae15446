package tree_test

import (
	"slices"
	"testing"

	"breakwater/api"
)

func TestTheExamples(t *testing.T) { // P14.1 to P14.7: the chapter's table, row by row
	r := begin(t)
	noTree(t, "no disk", nil, api.Report{Inodes: []int{1}}, api.ErrArg)
	noTree(t, "inode 2 has no place", r.d, api.Report{Inodes: []int{1, 2}}, api.ErrArg)

	r.made(1, "a", 1, 7, 2)
	r.made(1, "d", 2, 8, 3)
	r.noMake(1, "a", 2, 0, api.ErrDirThere)
	r.noMake(2, "x", 1, 0, api.ErrDirKind)

	r.noMake(1, "b/", 1, 0, api.ErrPathName)
	r.noMake(1, "b", 3, 0, api.ErrArg)
	r.noMake(9, "b", 1, 0, api.ErrFileInode)

	r.edges(2, 5, 3, 6, 5, 1, 6, 1)

	r.link(2, 3, "l")
	r.noLink(3, 1, "m", api.ErrFileKind)
	r.stat(api.Stat{Ino: 2, Kind: 1, Links: 2, Made: 7})

	r.noRename(1, "d", 3, "e", api.ErrTreeLoop)
	r.noRename(1, "a", 1, "d", api.ErrDirThere)
	r.noRename(1, "a", 3, "l", api.OK)

	r.file(3, "f", 4)
	r.noMake(1, "g", 1, 0, api.ErrSpaceInodes)

	r.rename(3, "f", 1, "a")
	r.list(1, aFile("a", 4), aDir("d", 3))
	r.missing(3, "f", api.ErrDirNone)
	r.hasLinks(2, 1)

	r.noRmdir(1, "d", api.ErrTreeFull)
	r.noUnlink(1, "d", api.ErrFileKind)
	r.noRmdir(1, "a", api.ErrDirKind)
	r.unlink(3, "l")
	r.rmdir(1, "d")
	r.list(1, aFile("a", 4))

	r.made(1, "h", 2, 1, 2)
}

// refusedAsk holds the questions of a directory to an error, and to zero values beside it.
func (r *rig) refusedAsk(d int, name string, find, list api.Errno) {
	r.Helper()
	r.unchanged("a refused question", func() {
		r.Helper()
		r.missing(d, name, find)
		if l, e := r.x.List(d); len(l) != 0 || e != list {
			r.Errorf("List(%d): %v, %d; want %d", d, l, e, list)
		}
	})
}

func TestWhatIsAskedOfNoDirectory(t *testing.T) { // P14.2
	r := begin(t)
	r.file(1, "a", 2)
	r.dir(1, "d", 3)
	for _, d := range noInodes() {
		r.refusedAsk(d, "a", api.ErrFileInode, api.ErrFileInode)
		r.refusedAsk(d, "/", api.ErrFileInode, api.ErrFileInode)
		r.gone(d)
	}
	r.refusedAsk(2, "a", api.ErrDirKind, api.ErrDirKind)
	for _, name := range append(badNames(), "b", "A", "aa") {
		r.missing(1, name, api.ErrDirNone)
		r.missing(3, name, api.ErrDirNone)
	}
	r.found(1, "a", 2)
	r.found(1, "d", 3)
}

func TestWhatTheDiskRefuses(t *testing.T) { // P14.2: the errors of the layers below go up
	x := drawn{1: {of(2, "a"), of(3, "d")}, 3: {of(4, "b")}}
	d, report := x.on(t, 40, 4)
	r := rigOn(t, d, report.Inodes, report.Blocks)
	write(t, d, 4, spoilt())
	if s, e := r.x.Stat(4); s != (api.Stat{}) || e != api.ErrLayoutInode {
		t.Errorf("Stat: %+v, %d", s, e)
	}
	r.found(3, "b", 4)
	if l, e := r.x.List(3); len(l) != 0 || e != api.ErrLayoutInode {
		t.Errorf("List: %v, %d", l, e)
	}
	write(t, d, 7, spoilt())
	r.refusedAsk(3, "b", api.ErrLayoutSlot, api.ErrLayoutSlot)
	write(t, d, 3, spoilt())
	r.refusedAsk(3, "b", api.ErrLayoutInode, api.ErrLayoutInode)
	write(t, d, 2, inodeSector(t, api.Inode{Kind: api.KindFile, Links: 1, Size: 128, Double: 4000}))
	if s, e := r.x.Stat(2); s != (api.Stat{}) || e != api.ErrCachePlace {
		t.Errorf("Stat: %+v, %d", s, e)
	}
}

func TestListIsByRisingNames(t *testing.T) { // P14.2: byte by byte, whatever their slots are
	r := rigOf(t, 80, 20)
	names := []string{"b", "\xff", "a", "B", "ab", "aa", "\x01", "a\x7f", "é", "Z", "~", "b\xfe", "1234567890123456789012345678901234567890", "1"}
	var want []api.Entry
	for k, name := range names {
		r.made(1, name, 1+k%2, 0, k+2)
		want = append(want, api.Entry{Name: name, Ino: k + 2, Kind: 1 + k%2})
	}
	slices.SortFunc(want, func(a, b api.Entry) int {
		if a.Name < b.Name {
			return -1
		}
		return 1
	})
	r.list(1, want...)
	if want[0].Name != "\x01" || want[1].Name != "1" || want[13].Name != "\xff" {
		t.Errorf("the test's own order: %v", want)
	}
	r.list(3)
}

func TestListTellsNoEmptySlots(t *testing.T) { // P14.2
	r := begin(t)
	r.file(1, "a", 2)
	r.file(1, "b", 3)
	r.file(1, "c", 4)
	r.unlink(1, "b")
	r.list(1, aFile("a", 2), aFile("c", 4))
	r.unlink(1, "a")
	r.unlink(1, "c")
	r.list(1)
	r.stat(api.Stat{Ino: 1, Kind: 2, Links: 1, Size: 384, Blocks: 3})
	r.dir(1, "z", 2)
	r.list(1, aDir("z", 2))
	r.stat(api.Stat{Ino: 1, Kind: 2, Links: 1, Size: 384, Blocks: 3})
}

func TestStat(t *testing.T) { // P14.2
	r := rigOf(t, 80, 8)
	r.stat(api.Stat{Ino: 1, Kind: 2, Links: 1})
	r.made(1, "a", 1, 1<<40, 2)
	r.made(1, "d", 2, 0, 3)
	r.stat(api.Stat{Ino: 1, Kind: 2, Links: 1, Size: 256, Blocks: 2})
	r.stat(api.Stat{Ino: 2, Kind: 1, Links: 1, Made: 1 << 40})
	r.stat(api.Stat{Ino: 3, Kind: 2, Links: 1})
	r.is("Write", r.x.Files().Write(2, 5632, []byte{1}), api.OK) // block 44: with two tables
	r.stat(api.Stat{Ino: 2, Kind: 1, Links: 1, Size: 5633, Made: 1 << 40, Blocks: 3})
	r.links(2, 3, 0, 13) // the 13th slot is had by a table
	r.stat(api.Stat{Ino: 3, Kind: 2, Links: 1, Size: 13 * 128, Blocks: 14})
	r.stat(api.Stat{Ino: 2, Kind: 1, Links: 14, Size: 5633, Made: 1 << 40, Blocks: 3})
}

func TestQuestionsChangeNothing(t *testing.T) { // P14.2
	r := begin(t)
	r.file(1, "a", 2)
	r.dir(1, "d", 3)
	r.unchanged("questions", func() {
		r.x.Find(1, "a")
		r.x.Find(1, "b")
		r.x.List(1)
		r.x.List(3)
		r.x.Stat(1)
		r.x.Stat(2)
		r.x.Files()
		r.x.Cache()
	})
}

func TestWhatComesOutAndIsWrittenOver(t *testing.T) { // R4: an answer is new memory
	r := begin(t)
	r.file(1, "b", 2)
	r.dir(1, "a", 3)
	list, _ := r.x.List(1)
	for k := range list[:cap(list)] {
		list[:cap(list)][k] = api.Entry{Name: "x", Ino: 9, Kind: 9}
	}
	r.list(1, aDir("a", 3), aFile("b", 2))
	edges := r.x.Cache().Edges()
	clear(edges)
	r.edges(2, 5, 3, 6, 5, 1, 6, 1)
}

func TestFilesAndCacheAreThoseBeneath(t *testing.T) { // P14.2
	r := begin(t)
	if r.x.Files() == nil || r.x.Files() != r.x.Files() || r.x.Cache() == nil || r.x.Cache() != r.x.Cache() {
		t.Fatal("Files, Cache")
	}
	r.file(1, "a", 2)
	r.is("Write", r.x.Files().Write(2, 0, []byte("hello")), api.OK)
	r.stat(api.Stat{Ino: 2, Kind: 1, Links: 1, Size: 5, Blocks: 1})
	r.is("Sync", r.x.Cache().Sync(), api.OK)
	if s, _ := r.d.Read(6); string(s[:5]) != "hello" {
		t.Errorf("sector 6: %q", s[:5])
	}
	r.is("Truncate", r.x.Files().Truncate(2, 2), api.OK)
	r.stat(api.Stat{Ino: 2, Kind: 1, Links: 1, Size: 2, Blocks: 1})
}

func TestTwoTreesSideBySide(t *testing.T) { // R5: they have nothing to do with each other
	a, b := begin(t), begin(t)
	a.file(1, "a", 2)
	b.unchanged("the other one", func() {
		a.dir(1, "d", 3)
		a.link(2, 3, "l")
		a.rename(1, "d", 1, "e")
		a.unlink(1, "a")
		a.rename(3, "l", 1, "m")
		a.rmdir(1, "e")
		a.sync()
	})
	b.list(1)
	b.dir(1, "x", 2)
	a.list(1, aFile("m", 2))
	b.list(1, aDir("x", 2))
}
