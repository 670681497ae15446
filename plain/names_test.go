package plain_test

import (
	"testing"

	"breakwater/api"
)

func TestCreateAndMkdir(t *testing.T) { // P16.2: Stat of what was made; in the root and deeper; ErrDirThere of files and directories
	r := begin(t)
	r.is(api.Op{Kind: api.OpCreate, Path: "/a", Made: 5}, api.Answer{Stat: api.Stat{Ino: 2, Kind: api.KindFile, Links: 1, Made: 5}})
	r.is(api.Op{Kind: api.OpMkdir, Path: "/d", Made: 6}, api.Answer{Stat: api.Stat{Ino: 3, Kind: api.KindDir, Links: 1, Made: 6}})
	r.is(api.Op{Kind: api.OpMkdir, Path: "/d/e", Made: 7}, api.Answer{Stat: api.Stat{Ino: 4, Kind: api.KindDir, Links: 1, Made: 7}})
	r.is(api.Op{Kind: api.OpCreate, Path: "/d/e/a", Made: 1 << 40}, api.Answer{Stat: api.Stat{Ino: 5, Kind: api.KindFile, Links: 1, Made: 1 << 40}})
	for _, there := range []string{"/a", "/d", "/d/e", "/d/e/a"} {
		r.no(create(there), api.ErrDirThere)
		r.no(mkdir(there), api.ErrDirThere)
	}
	r.stats("/d/e/a", api.Stat{Ino: 5, Kind: api.KindFile, Links: 1, Made: 1 << 40})
	r.stats("/d", api.Stat{Ino: 3, Kind: api.KindDir, Links: 1, Size: 128, Made: 6, Blocks: 1})
	r.lists("/", aFile("a", 2), aDir("d", 3))
	r.lists("/d", aDir("e", 4))
	r.lists("/d/e", aFile("a", 5))
	r.room(27, 3)
}

func TestTheLeastInode(t *testing.T) { // P16.2: what is made takes the least one that is free; ErrSpaceInodes in its place among the errors
	r := begin(t)
	for k := range 7 {
		r.made(create("/"+count(k)), k+2)
	}
	for _, kind := range []int{api.OpCreate, api.OpMkdir} {
		r.no(api.Op{Kind: kind, Path: "/x"}, api.ErrSpaceInodes)
		r.no(api.Op{Kind: kind, Path: "/n0"}, api.ErrDirThere)
		r.no(api.Op{Kind: kind, Path: "/n0/x"}, api.ErrDirKind)
		r.no(api.Op{Kind: kind, Path: "/"}, api.ErrTreeRoot)
	}
	r.room(24, 0)
	r.ok(link("/n0", "/l")) // that takes none
	r.ok(unlink("/n4"), unlink("/n2"))
	r.room(23, 2)
	r.made(mkdir("/x"), 4)
	r.made(create("/x/y"), 6)
	r.no(create("/z"), api.ErrSpaceInodes)
	r.ok(unlink("/n0"))
	r.no(create("/z"), api.ErrSpaceInodes) // it has another name
	r.ok(unlink("/l"), rename("/n6", "/n1"))
	r.made(create("/z"), 2)
	r.made(create("/u"), 3)
	r.no(create("/v"), api.ErrSpaceInodes)
}

func TestAnInodeAnew(t *testing.T) { // P16.2: what is made where something was has nothing of that
	r := begin(t)
	r.made(api.Op{Kind: api.OpCreate, Path: "/a", Made: 9}, 2)
	r.ok(link("/a", "/b"), write("/a", 100, sevens(2000)), unlink("/a"), unlink("/b"))
	r.made(mkdir("/d"), 2)
	r.lists("/d")
	r.made(create("/d/x"), 3)
	r.ok(unlink("/d/x"), rmdir("/d"))
	r.made(create("/c"), 2)
	r.has("/c", "")
	r.ok(truncate("/c", 200))
	r.has("/c", string(make([]byte, 200)))
	r.sized("/c", 200, 0)
}

func TestList(t *testing.T) { // P16.2: by rising names, byte by byte; of a file ErrDirKind
	r := rigOf(t, 60, 20)
	for k, n := range []string{"b", "a", "\xff", "B", "ab", "a\x01", "-", "10", "9"} {
		kind := api.OpCreate
		if k%2 == 1 {
			kind = api.OpMkdir
		}
		r.made(api.Op{Kind: kind, Path: "/" + n}, k+2)
	}
	r.lists("/", aFile("-", 8), aDir("10", 9), aFile("9", 10), aDir("B", 5), aDir("a", 3), aDir("a\x01", 7), aFile("ab", 6), aFile("b", 2), aFile("\xff", 4))
	r.no(list("/b"), api.ErrDirKind)
	r.lists("/a")
	r.ok(unlink("/b"), rmdir("/B"))
	r.lists("/", aFile("-", 8), aDir("10", 9), aFile("9", 10), aDir("a", 3), aDir("a\x01", 7), aFile("ab", 6), aFile("\xff", 4))
	r.ok(rename("/\xff", "/a\x00"[:2]+"\x02"), link("/ab", "/A"))
	r.lists("/", aFile("-", 8), aDir("10", 9), aFile("9", 10), aFile("A", 6), aDir("a", 3), aDir("a\x01", 7), aFile("a\x02", 4), aFile("ab", 6))
}

func TestLink(t *testing.T) { // P16.2, P16.7, P16.8: one file by several names; its errors, in their order
	r := wood(t)
	r.ok(link("/a", "/d/c"), link("/d/c", "/g/c"), write("/g/c", 0, []byte("one")))
	r.has("/a", "one")
	r.stats("/d/c", api.Stat{Ino: 2, Kind: api.KindFile, Links: 3, Size: 3, Blocks: 1})
	r.ok(unlink("/a"))
	r.stats("/d/c", api.Stat{Ino: 2, Kind: api.KindFile, Links: 2, Size: 3, Blocks: 1})
	r.lists("/g", aFile("c", 2))
	r.no(link("/d/c", "/d/b"), api.ErrDirThere)
	r.no(link("/d/c", "/d/c"), api.ErrDirThere)
	r.no(link("/d", "/d/c"), api.ErrDirThere) // ahead of ErrFileKind
	r.no(link("/", "/d"), api.ErrDirThere)
	r.no(link("/d", "/x"), api.ErrFileKind)
	r.no(link("/d", "/d/x"), api.ErrFileKind)
	r.no(link("/", "/x"), api.ErrFileKind)
	r.fill("/d/c", 0)
	r.no(link("/d", "/d/e/x"), api.ErrFileKind) // ahead of ErrSpaceBlocks
	r.no(link("/d/c", "/d/b"), api.ErrDirThere)
	r.no(link("/d/c", "/d/e/x"), api.ErrSpaceBlocks)
	r.ok(link("/d/c", "/a")) // in the slot that was emptied
}

// linked is one whose file /a has so many entries, all but one of them in the directory /d; /b is a file.
func linked(t *testing.T, links int) *rig {
	t.Helper()
	r := rigOf(t, 140, 8)
	r.made(create("/a"), 2)
	r.made(mkdir("/d"), 3)
	r.made(create("/b"), 4)
	for k := 1; k < links; k++ {
		r.ok(link("/a", "/d/"+count(k)))
	}
	r.stats("/d/n50", api.Stat{Ino: 2, Kind: api.KindFile, Links: links})
	return r
}

func TestTheMostEntries(t *testing.T) { // P16.2: Links at 99, 100 and what would be 101
	r := linked(t, 99)
	r.ok(rename("/a", "/x"), rename("/x", "/a"), link("/d/n7", "/x"))
	r.stats("/a", api.Stat{Ino: 2, Kind: api.KindFile, Links: 100})
	r.no(link("/a", "/y"), api.ErrTreeLinks)
	r.ok(unlink("/x"), link("/a", "/y"))
	r.no(rename("/y", "/x"), api.ErrTreeLinks)
	r.ok(rename("/b", "/y")) // one less
	r.stats("/a", api.Stat{Ino: 2, Kind: api.KindFile, Links: 99})
	r.ok(rename("/a", "/y"))
	r.stats("/y", api.Stat{Ino: 2, Kind: api.KindFile, Links: 99})
	r.no(stat("/b"), api.ErrDirNone)
	r.room(131-4-98-4, 5) // 4 slots of the root's; 98 of /d's, and four tables
}

func TestTooManyEntries(t *testing.T) { // P16.2: ErrTreeLinks of Link and of a file's Rename, in its place among the errors
	r := linked(t, 100)
	for _, path := range []string{"/a", "/d/n7"} {
		r.no(link(path, "/x"), api.ErrTreeLinks)
		r.no(link(path, "/d/n1"), api.ErrDirThere)
		r.no(rename(path, "/x"), api.ErrTreeLinks)
		r.no(rename(path, "/b"), api.ErrTreeLinks)
		r.no(rename(path, "/d"), api.ErrDirThere)
		r.no(rename(path, path), api.OK)
		r.no(rename(path, "/d/n9"), api.OK) // they are one file
	}
	r.fill("/b", 0)
	r.no(link("/a", "/d/x"), api.ErrTreeLinks) // ahead of ErrSpaceBlocks
	r.no(rename("/d/n3", "/x"), api.ErrTreeLinks)
	r.no(link("/b", "/d/x"), api.ErrSpaceBlocks)
	r.no(rename("/b", "/d/x"), api.ErrSpaceBlocks)
	r.no(rename("/d", "/x"), api.ErrSpaceBlocks)
	r.ok(rename("/b", "/d/n3")) // a slot that is there needs none
	r.stats("/a", api.Stat{Ino: 2, Kind: api.KindFile, Links: 99})
	r.ok(unlink("/d/n5"), link("/a", "/d/n5"))
	r.no(rename("/d/n5", "/d"), api.ErrDirThere)
}

func TestUnlinkAndRmdir(t *testing.T) { // P16.2: their errors, in their order; what is taken away is gone, and its room is free
	r := wood(t)
	r.ok(write("/a", 0, sevens(300)))
	r.no(unlink("/n"), api.ErrDirNone)
	r.no(rmdir("/n"), api.ErrDirNone)
	r.no(unlink("/d/a"), api.ErrDirNone)
	r.no(unlink("/d"), api.ErrFileKind)
	r.no(unlink("/g"), api.ErrFileKind)
	r.no(rmdir("/a"), api.ErrDirKind)
	r.no(rmdir("/d/b"), api.ErrDirKind)
	r.no(rmdir("/d"), api.ErrTreeFull)
	r.no(rmdir("/d/e"), api.ErrTreeFull)
	r.room(41, 2)
	r.ok(unlink("/a"))
	r.room(44, 3)
	r.ok(unlink("/d/e/f"), rmdir("/d/e"))
	r.room(45, 5) // e's slot
	r.no(stat("/d/e"), api.ErrDirNone)
	r.no(rmdir("/d"), api.ErrTreeFull)
	r.ok(unlink("/d/b"), rmdir("/d"), rmdir("/g"))
	r.lists("/")
	r.stats("/", api.Stat{Ino: 1, Kind: api.KindDir, Links: 1, Size: 384, Blocks: 3}) // slots that were emptied stay
	r.room(47, 8)
	r.made(mkdir("/d"), 2)
	r.sized("/", 384, 3)
}

func TestSlotsThatWereEmptied(t *testing.T) { // P16.2: they stay, are taken again, and make no directory full
	r := begin(t)
	r.made(mkdir("/d"), 2)
	for k := range 5 {
		r.made(create("/d/"+count(k)), k+3)
	}
	r.sized("/d", 640, 5)
	r.ok(unlink("/d/n1"), unlink("/d/n3"))
	r.sized("/d", 640, 5)
	r.made(create("/d/x"), 4)
	r.ok(link("/d/x", "/d/y"))
	r.sized("/d", 640, 5)
	r.ok(link("/d/x", "/d/z"))
	r.sized("/d", 768, 6)
	r.ok(rename("/d/z", "/d/u"))
	r.sized("/d", 896, 7) // the old slot is emptied behind the new one's being taken
	r.ok(rename("/d/u", "/d/v"))
	r.sized("/d", 896, 7)
	r.ok(rename("/d/v", "/d/n0"))
	r.sized("/d", 896, 7)
	r.lists("/d", aFile("n0", 4), aFile("n2", 5), aFile("n4", 7), aFile("x", 4), aFile("y", 4))
	r.ok(unlink("/d/n0"), unlink("/d/n2"), unlink("/d/n4"), unlink("/d/x"))
	r.no(rmdir("/d"), api.ErrTreeFull)
	r.ok(unlink("/d/y"))
	r.sized("/d", 896, 7)
	r.ok(rmdir("/d"))
	r.room(30, 7)
}

func TestWhichSlotIsTaken(t *testing.T) { // P16.2: the least empty one; so room for a table is wanted only behind all of them
	r := rigOf(t, 60, 30)
	r.made(mkdir("/d"), 2)
	for k := range 12 {
		r.made(create("/d/"+count(k)), k+3)
	}
	r.made(create("/f"), 15)
	r.ok(unlink("/d/n11"), unlink("/d/n4"))
	r.fill("/f", 1)
	r.made(create("/d/x"), 7)
	r.made(mkdir("/d/y"), 14)
	r.no(create("/d/z"), api.ErrSpaceBlocks) // a slot and the single table
	r.ok(truncate("/f", 1536))
	r.made(create("/d/z"), 16)
	r.sized("/d", 13*128, 14)
}

func TestRenameOfAFile(t *testing.T) { // P16.2: to a new name, over another file; nothing; its errors, in their order
	r := wood(t)
	r.ok(write("/a", 0, []byte("a")), write("/d/b", 0, []byte("b")))
	r.no(rename("/a", "/a"), api.OK)
	r.no(rename("/n", "/a"), api.ErrDirNone)
	r.no(rename("/a", "/d"), api.ErrDirThere)
	r.no(rename("/a", "/g"), api.ErrDirThere)
	r.no(rename("/d/b", "/d/e"), api.ErrDirThere)
	r.ok(rename("/a", "/g/x"))
	r.has("/g/x", "a")
	r.no(stat("/a"), api.ErrDirNone)
	r.room(41, 2)
	r.ok(rename("/g/x", "/d/b"))
	r.room(42, 3) // what /d/b had
	r.has("/d/b", "a")
	r.lists("/g")
	r.sized("/g", 128, 1)
	r.stats("/d/b", api.Stat{Ino: 2, Kind: api.KindFile, Links: 1, Size: 1, Blocks: 1})
	r.ok(link("/d/b", "/y"))
	r.no(rename("/y", "/d/b"), api.OK) // they are one file: both names stay
	r.lists("/", aDir("d", 3), aDir("g", 7), aFile("y", 2))
	r.made(create("/z"), 4)
	r.ok(rename("/z", "/y"))
	r.stats("/d/b", api.Stat{Ino: 2, Kind: api.KindFile, Links: 1, Size: 1, Blocks: 1}) // it has one name less
	r.stats("/y", api.Stat{Ino: 4, Kind: api.KindFile, Links: 1})
	r.ok(link("/d/b", "/d/c"), rename("/d/b", "/d/d"))
	r.stats("/d/d", api.Stat{Ino: 2, Kind: api.KindFile, Links: 2, Size: 1, Blocks: 1})
}

func TestRenameOfADirectory(t *testing.T) { // P16.2: with all that lies in it; its errors, in their order
	r := wood(t)
	r.no(rename("/d", "/d"), api.OK)
	r.no(rename("/d/e", "/d/e"), api.OK)
	r.no(rename("/d", "/a"), api.ErrDirThere)
	r.no(rename("/d", "/g"), api.ErrDirThere)   // though that is empty
	r.no(rename("/d", "/d/e"), api.ErrDirThere) // ahead of ErrTreeLoop
	r.no(rename("/d", "/d/b"), api.ErrDirThere)
	r.no(rename("/d", "/d/x"), api.ErrTreeLoop)
	r.no(rename("/d", "/d/d"), api.ErrTreeLoop)
	r.no(rename("/d", "/d/e/x"), api.ErrTreeLoop)
	r.no(rename("/d/e", "/d/e/x"), api.ErrTreeLoop)
	r.no(rename("/d", "/d/b/x"), api.ErrDirKind)
	r.ok(rename("/d", "/dd"), rename("/dd/e", "/e")) // a name that only begins alike
	r.ok(rename("/e", "/dd/e"), rename("/dd", "/d"))
	r.made(create("/g/new"), 8)
	r.ok(write("/g/new", 0, []byte("new")), rename("/d", "/g/d"))
	r.lists("/g", aDir("d", 3), aFile("new", 8))
	r.stats("/g/d", api.Stat{Ino: 3, Kind: api.KindDir, Links: 1, Size: 256, Blocks: 2})
	r.ok(rename("/g/d/e", "/e"), rename("/g/d", "/e/d"), rename("/g", "/e/d/g"))
	r.no(rename("/e", "/e/d/g/x"), api.ErrTreeLoop)
	r.no(rename("/e/d", "/e/d/g/x"), api.ErrTreeLoop)
	r.has("/e/d/g/new", "new")
	r.fill("/a", 0)
	r.no(rename("/e", "/e/d/g/x"), api.ErrTreeLoop) // ahead of ErrSpaceBlocks
	r.no(rename("/e/d/g", "/a"), api.ErrDirThere)
	r.ok(rename("/e/d", "/d"), rename("/d/g", "/g")) // slots that were emptied
	r.made(mkdir("/g/m"), 9)
	r.no(rename("/g/m", "/d/g/x"), api.ErrDirNone)
}

func TestAFileInAFileOfADirectory(t *testing.T) { // P16.2: of a file no Rename closes a loop, whatever its path
	r := wood(t)
	r.no(rename("/a", "/a/x"), api.ErrDirKind)
	r.no(rename("/d/b", "/d/b/x"), api.ErrDirKind)
	r.ok(rename("/d/b", "/d/e/b"), rename("/d/e/b", "/d/b"))
}

// crowd is one whose directory /d has all slots that it may, with files of up to 100 entries each, and no sector that is free; /g is an empty directory, /h a file.
func crowd(t *testing.T, inodes int) *rig {
	t.Helper()
	r := rigOf(t, 1+inodes+1102+15+1, inodes) // 1068 slots and 34 tables; the root's 14 slots and a table; a block of /h
	r.made(mkdir("/d"), 2)
	r.made(mkdir("/g"), 3)
	r.made(create("/h"), 4)
	for k := range 11 {
		r.made(create("/f"+count(k)), k+5)
	}
	r.sized("/", 14*128, 15)
	for k := range 1067 {
		r.ok(link("/f"+count(k/99), "/d/"+count(k)))
	}
	r.sized("/d", 1067*128, 1067+34)
	r.ok(link("/fn10", "/d/n1067")) // the last slot
	r.sized("/d", 1068*128, 1068+34)
	r.ok(write("/h", 0, sevens(1)))
	r.room(0, inodes-15)
	return r
}

func TestNoSlotIsLeft(t *testing.T) { // P16.2: ErrDirFull, ahead of ErrSpaceBlocks, behind all others; of each kind that makes an entry
	r := crowd(t, 16)
	r.no(create("/d/x"), api.ErrDirFull)
	r.no(mkdir("/d/x"), api.ErrDirFull)
	r.no(create("/d/n1067"), api.ErrDirThere)
	r.no(link("/h", "/d/x"), api.ErrDirFull)
	r.no(link("/h", "/d/n0"), api.ErrDirThere)
	r.no(link("/g", "/d/x"), api.ErrFileKind)
	r.no(link("/fn0", "/d/x"), api.ErrTreeLinks) // it has 100 entries
	r.no(rename("/h", "/d/x"), api.ErrDirFull)
	r.no(rename("/g", "/d/x"), api.ErrDirFull)
	r.no(rename("/d", "/d/x"), api.ErrTreeLoop)
	r.no(rename("/d/n0", "/d/x"), api.ErrTreeLinks)
	r.no(rename("/d/n1067", "/d/x"), api.ErrDirFull) // its own slot is not empty yet
	r.no(create("/g/x"), api.ErrSpaceBlocks)
	r.no(rename("/h", "/g/x"), api.ErrSpaceBlocks)
	r.no(rename("/d", "/g/x"), api.ErrSpaceBlocks)
	r.ok(unlink("/d/n500"))
	r.made(create("/d/x"), 16) // the slot that was emptied
	r.no(link("/h", "/d/y"), api.ErrDirFull)
	r.no(create("/d/y"), api.ErrSpaceInodes) // ahead of ErrDirFull
	r.no(create("/g/y"), api.ErrSpaceInodes) // and of ErrSpaceBlocks
	r.no(create("/d/x"), api.ErrDirThere)
	r.ok(rename("/h", "/d/x"), unlink("/d/n0"), rename("/g", "/d/g"))
	r.sized("/d", 1068*128, 1068+34)
	for k := range 1068 {
		r.p.Do(unlink("/d/" + count(k)))
	}
	if a := r.p.Do(stat("/d")).Stat; a.Size != 1068*128 || a.Blocks != 1068+34 {
		t.Errorf("/d: %+v: slots that were emptied stay", a)
	}
}
