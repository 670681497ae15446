package fs_test

import (
	"testing"

	"breakwater/api"
)

func TestCreateAndMkdir(t *testing.T) { // P15.3: Stat of what was made; in the root and deeper; ErrDirThere of files and directories
	r := begin(t)
	r.is(api.Op{Kind: api.OpCreate, Path: "/a", Made: 5}, api.Answer{Stat: api.Stat{Ino: 2, Kind: api.KindFile, Links: 1, Made: 5}})
	r.is(api.Op{Kind: api.OpMkdir, Path: "/d", Made: 6}, api.Answer{Stat: api.Stat{Ino: 3, Kind: api.KindDir, Links: 1, Made: 6}})
	r.is(api.Op{Kind: api.OpMkdir, Path: "/d/e", Made: 7}, api.Answer{Stat: api.Stat{Ino: 4, Kind: api.KindDir, Links: 1, Made: 7}})
	r.is(api.Op{Kind: api.OpCreate, Path: "/d/e/a", Made: 1 << 40}, api.Answer{Stat: api.Stat{Ino: 5, Kind: api.KindFile, Links: 1, Made: 1 << 40}})
	for _, there := range []string{"/a", "/d", "/d/e", "/d/e/a"} {
		r.no(create(there), api.ErrDirThere)
		r.no(mkdir(there), api.ErrDirThere)
	}
	r.stats("/d/e/a", api.Stat{Ino: 5, Kind: api.KindFile, Links: 1, Made: 1 << 40})
	r.stats("/d", api.Stat{Ino: 3, Kind: api.KindDir, Links: 1, Size: 128, Made: 6, Blocks: 1})
	r.lists("/", aFile("a", 2), aDir("d", 3))
	r.lists("/d", aDir("e", 4))
	r.lists("/d/e", aFile("a", 5))
}

func TestTheLeastInode(t *testing.T) { // P15.8: what is made takes the least one that is free, at once and behind a Mount
	r := begin(t)
	for k := range 7 {
		r.made(create("/"+count(k)), k+2)
	}
	r.no(create("/x"), api.ErrSpaceInodes)
	r.no(mkdir("/x"), api.ErrSpaceInodes)
	r.no(create("/n0"), api.ErrDirThere) // ahead of ErrSpaceInodes
	r.no(create("/n0/x"), api.ErrDirKind)
	r.no(create("/"), api.ErrTreeRoot)
	r.room(24, 0, 0)
	r.ok(unlink("/n4"), unlink("/n2"))
	r.room(24, 0, 2)
	r.made(mkdir("/x"), 4)
	r.made(create("/x/y"), 6)
	r.no(create("/z"), api.ErrSpaceInodes)
	r.ok(sync(), unlink("/n0"), rename("/n6", "/n1"), sync())
	r = r.again()
	r.made(create("/z"), 2)
	r.made(create("/u"), 3)
	r.no(create("/v"), api.ErrSpaceInodes)
}

func TestList(t *testing.T) { // P15.3: by rising names, byte by byte; of a file ErrDirKind
	r := rigOf(t, 60, 20)
	names := []string{"b", "a", "\xff", "B", "ab", "a\x01", "-", "10", "9"}
	for k, n := range names {
		kind := api.OpCreate
		if k%2 == 1 {
			kind = api.OpMkdir
		}
		r.made(api.Op{Kind: kind, Path: "/" + n}, k+2)
	}
	r.lists("/", aFile("-", 8), aDir("10", 9), aFile("9", 10), aDir("B", 5), aDir("a", 3), aDir("a\x01", 7), aFile("ab", 6), aFile("b", 2), aFile("\xff", 4))
	r.no(list("/b"), api.ErrDirKind)
	r.lists("/a")
	r.ok(unlink("/b"), rmdir("/B"))
	r.lists("/", aFile("-", 8), aDir("10", 9), aFile("9", 10), aDir("a", 3), aDir("a\x01", 7), aFile("ab", 6), aFile("\xff", 4))
}

func TestLink(t *testing.T) { // P15.3: one file by several names; its errors, in their order
	r := wood(t)
	r.ok(link("/a", "/d/c"), link("/d/c", "/g/c"), write("/g/c", 0, []byte("one")))
	r.has("/a", "one")
	r.stats("/d/c", api.Stat{Ino: 2, Kind: api.KindFile, Links: 3, Size: 3, Blocks: 1})
	r.ok(unlink("/a"))
	r.stats("/d/c", api.Stat{Ino: 2, Kind: api.KindFile, Links: 2, Size: 3, Blocks: 1})
	r.no(link("/d/c", "/d/b"), api.ErrDirThere)
	r.no(link("/d/c", "/d/c"), api.ErrDirThere)
	r.no(link("/d", "/d/c"), api.ErrDirThere) // ahead of ErrFileKind
	r.no(link("/d", "/x"), api.ErrFileKind)
	r.no(link("/d", "/d/x"), api.ErrFileKind)
	r.no(link("/", "/x"), api.ErrFileKind)
	r.no(link("/", "/d"), api.ErrDirThere)
}

// linked is a file system whose file /a has 100 entries; /d is a directory.
func linked(t *testing.T) *rig {
	t.Helper()
	r := rigOf(t, 140, 8)
	r.made(create("/a"), 2)
	r.made(mkdir("/d"), 3)
	r.made(create("/b"), 4)
	for k := 1; k < 100; k++ {
		r.ok(link("/a", "/d/"+count(k)))
	}
	r.stats("/d/n50", api.Stat{Ino: 2, Kind: api.KindFile, Links: 100})
	return r
}

func TestTooManyEntries(t *testing.T) { // P15.3: ErrTreeLinks at 100, of Link and of a file's Rename, in its place among the errors
	r := linked(t)
	for _, path := range []string{"/a", "/d/n7"} {
		r.no(link(path, "/x"), api.ErrTreeLinks)
		r.no(link(path, "/d/n1"), api.ErrDirThere)
		r.no(rename(path, "/x"), api.ErrTreeLinks)
		r.no(rename(path, "/b"), api.ErrTreeLinks)
		r.no(rename(path, "/d"), api.ErrDirThere)
		r.no(rename(path, path), api.OK)
		r.no(rename(path, "/d/n9"), api.OK) // they are one file
	}
	free := r.f.Room().Blocks
	if free < 12 || free > 40 {
		t.Fatalf("%d are free", free)
	}
	r.ok(write("/b", 0, sevens(12*128)))
	for k := 12; r.f.Room().Blocks > 0; k++ {
		r.f.Do(write("/b", 128*k, sevens(1)))
	}
	r.ok(sync())
	r.no(link("/a", "/d/x"), api.ErrTreeLinks) // ahead of ErrSpaceBlocks
	r.no(rename("/d/n3", "/x"), api.ErrTreeLinks)
	r.no(link("/b", "/d/x"), api.ErrSpaceBlocks)
	r.ok(rename("/b", "/d/n3")) // a slot that is there needs none
	r.stats("/a", api.Stat{Ino: 2, Kind: api.KindFile, Links: 99})
	r.ok(unlink("/d/n5"), link("/a", "/d/n5"))
	r.no(rename("/d/n5", "/d"), api.ErrDirThere)
}

func TestUnlinkAndRmdir(t *testing.T) { // P15.3: their errors, in their order; what is taken away is gone, and its room is free
	r := wood(t)
	r.ok(write("/a", 0, sevens(300)), sync())
	r.no(unlink("/n"), api.ErrDirNone)
	r.no(rmdir("/n"), api.ErrDirNone)
	r.no(unlink("/d"), api.ErrFileKind)
	r.no(unlink("/g"), api.ErrFileKind)
	r.no(rmdir("/a"), api.ErrDirKind)
	r.no(rmdir("/d"), api.ErrTreeFull)
	r.no(rmdir("/d/e"), api.ErrTreeFull)
	before := r.f.Room()
	r.ok(unlink("/a"))
	r.room(before.Blocks+3, 3, before.Inodes+1)
	r.ok(sync())
	r.room(before.Blocks+3, 0, before.Inodes+1)
	r.ok(unlink("/d/e/f"), rmdir("/d/e"))
	r.room(before.Blocks+4, 1, before.Inodes+3) // e's slot
	r.no(stat("/d/e"), api.ErrDirNone)
	r.no(rmdir("/d"), api.ErrTreeFull)
	r.ok(unlink("/d/b"), rmdir("/d"), rmdir("/g"))
	r.lists("/")
	r.stats("/", api.Stat{Ino: 1, Kind: api.KindDir, Links: 1, Size: 384, Blocks: 3}) // slots that were emptied stay
	r.made(mkdir("/d"), 2)
}

func TestRenameOfAFile(t *testing.T) { // P15.3: to a new name, over another file; nothing; its errors, in their order
	r := wood(t)
	r.ok(write("/a", 0, []byte("a")), write("/d/b", 0, []byte("b")))
	r.no(rename("/a", "/a"), api.OK)
	r.no(rename("/n", "/a"), api.ErrDirNone)
	r.no(rename("/a", "/d"), api.ErrDirThere)
	r.no(rename("/a", "/g"), api.ErrDirThere)
	r.no(rename("/d/b", "/d/e"), api.ErrDirThere)
	r.ok(rename("/a", "/g/x"))
	r.has("/g/x", "a")
	r.no(stat("/a"), api.ErrDirNone)
	inodes := r.f.Room().Inodes
	r.ok(rename("/g/x", "/d/b"))
	r.has("/d/b", "a")
	r.lists("/g")
	r.stats("/d/b", api.Stat{Ino: 2, Kind: api.KindFile, Links: 1, Size: 1, Blocks: 1})
	if n := r.f.Room().Inodes; n != inodes+1 {
		t.Errorf("%d inodes are free, %d were", n, inodes)
	}
	r.ok(link("/d/b", "/y"))
	r.no(rename("/y", "/d/b"), api.OK) // they are one file: both names stay
	r.lists("/", aDir("d", 3), aDir("g", 7), aFile("y", 2))
	r.made(create("/z"), 4)
	r.ok(rename("/z", "/y"))
	r.stats("/d/b", api.Stat{Ino: 2, Kind: api.KindFile, Links: 1, Size: 1, Blocks: 1}) // it has one name less
}

func TestRenameOfADirectory(t *testing.T) { // P15.3: with all that lies in it; its errors, in their order; it is a barrier
	r := wood(t)
	r.no(rename("/d", "/d"), api.OK)
	r.no(rename("/d", "/a"), api.ErrDirThere)
	r.no(rename("/d", "/g"), api.ErrDirThere)
	r.no(rename("/d", "/d/e"), api.ErrDirThere) // ahead of ErrTreeLoop
	r.no(rename("/d", "/d/x"), api.ErrTreeLoop)
	r.no(rename("/d", "/d/e/x"), api.ErrTreeLoop)
	r.no(rename("/d/e", "/d/e/x"), api.ErrTreeLoop)
	r.no(rename("/d", "/d/b/x"), api.ErrDirKind)
	r.made(create("/g/new"), 8)
	r.ok(write("/g/new", 0, []byte("new")), rename("/d", "/g/d"))
	r.dirty()
	r.lists("/g", aDir("d", 3), aFile("new", 8))
	r.stats("/g/d", api.Stat{Ino: 3, Kind: api.KindDir, Links: 1, Size: 256, Blocks: 2})
	before := told(r.f)
	r = r.again()
	if told(r.f) != before {
		t.Errorf("behind a directory's rename a Mount finds\n%s\nit was\n%s", told(r.f), before)
	}
	r.ok(rename("/g/d/e", "/e"), rename("/g/d", "/e/d"), rename("/g", "/e/d/g"))
	r.no(rename("/e", "/e/d/g/x"), api.ErrTreeLoop)
	r.has("/e/d/g/new", "new")
}

// crowd is a file system whose directory /d has all slots that it may, with files of up to 100 entries each, and no sector that is free; /g is an empty directory, /h a file.
func crowd(t *testing.T, inodes int) *rig {
	t.Helper()
	r := rigOf(t, 1+inodes+1102+15+1, inodes) // 1068 slots and 34 tables; the root's 14 slots and a table; a block of /h
	r.made(mkdir("/d"), 2)
	r.made(mkdir("/g"), 3)
	r.made(create("/h"), 4)
	for k := range 11 {
		r.made(create("/f"+count(k)), k+5)
	}
	if a := r.f.Do(stat("/")).Stat; a.Blocks != 15 {
		t.Fatalf("the root has %d sectors", a.Blocks)
	}
	for k := range 1068 {
		if a := r.f.Do(link("/f"+count(k/99), "/d/"+count(k))); a.Code != api.OK {
			t.Fatalf("link %d: %d", k, a.Code)
		}
	}
	r.ok(write("/h", 0, sevens(1)), sync())
	r.room(0, 0, inodes-15)
	return r
}

func TestNoSlotIsLeft(t *testing.T) { // P15.3: ErrDirFull, ahead of ErrSpaceBlocks, behind all others; of each kind that makes an entry
	r := crowd(t, 16)
	r.refuses(create("/d/x"), api.ErrDirFull)
	r.refuses(mkdir("/d/x"), api.ErrDirFull)
	r.refuses(create("/d/n1067"), api.ErrDirThere)
	r.refuses(link("/h", "/d/x"), api.ErrDirFull)
	r.refuses(link("/h", "/d/n0"), api.ErrDirThere)
	r.refuses(link("/g", "/d/x"), api.ErrFileKind)
	r.refuses(rename("/h", "/d/x"), api.ErrDirFull)
	r.refuses(rename("/g", "/d/x"), api.ErrDirFull)
	r.refuses(rename("/d", "/d/x"), api.ErrTreeLoop)
	r.refuses(rename("/d/n0", "/d/x"), api.ErrTreeLinks) // it has 100 entries
	r.refuses(rename("/d/n1067", "/d/x"), api.ErrDirFull)
	r.refuses(create("/g/x"), api.ErrSpaceBlocks)
	r.refuses(rename("/h", "/g/x"), api.ErrSpaceBlocks)
	r.refuses(rename("/d", "/g/x"), api.ErrSpaceBlocks)
	r.ok(unlink("/d/n500"))
	r.made(create("/d/x"), 16) // the slot that was emptied
	r.refuses(link("/h", "/d/y"), api.ErrDirFull)
	r.refuses(create("/d/y"), api.ErrSpaceInodes) // ahead of ErrDirFull
}
