package tree_test

import (
	"testing"

	"breakwater/api"
)

func TestMake(t *testing.T) { // P14.3: what is put and set
	r := begin(t)
	r.made(1, "a", api.KindFile, 7, 2)
	r.dirty(1, 2, 5)
	r.edges(2, 5, 5, 1)
	r.made(1, "d", api.KindDir, 8, 3)
	r.made(3, "f", api.KindFile, 0, 4)
	r.edges(2, 5, 3, 6, 4, 7, 5, 1, 6, 1, 7, 3)
	r.found(1, "a", 2)
	r.found(1, "d", 3)
	r.found(3, "f", 4)
	r.stat(api.Stat{Ino: 2, Kind: 1, Links: 1, Made: 7})
	r.stat(api.Stat{Ino: 3, Kind: 2, Links: 1, Size: 128, Made: 8, Blocks: 1})
	if x, e := r.x.Files().Inode(2); x != (api.Inode{Kind: 1, Links: 1, Made: 7}) || e != api.OK {
		t.Errorf("Inode: %+v, %d", x, e)
	}
	if r.d.Writes() != 2 { // those that made the disk
		t.Errorf("%d writes", r.d.Writes())
	}
	r.sync()
	r.edges()
	rigOn(t, r.d, []int{1, 2, 3, 4}, []int{5, 6, 7}).list(1, aFile("a", 2), aDir("d", 3))
}

func TestKindsAndTimes(t *testing.T) { // P14.3: ahead of all else
	r := begin(t)
	for _, kind := range []int{0, 3, -1, -2, 257, 258, minInt, maxInt} {
		r.noMake(1, "a", kind, 0, api.ErrArg)
		r.noMake(9, "/", kind, -1, api.ErrArg)
	}
	for _, made := range []int{-1, 1<<40 + 1, minInt, maxInt} {
		r.noMake(1, "a", 1, made, api.ErrArg)
		r.noMake(1, "a", 2, made, api.ErrArg)
		r.noMake(9, "", 1, made, api.ErrArg)
	}
	r.made(1, "a", 1, 0, 2)
	r.made(1, "b", 1, 1<<40, 3)
	r.made(1, "c", 2, 1<<40, 4)
	r.stat(api.Stat{Ino: 3, Kind: 1, Links: 1, Made: 1 << 40})
}

func TestNamesOfWhatIsMade(t *testing.T) { // P14.3: path.Check's error, ahead of the directory's
	r := rigOf(t, 40, 8)
	for _, name := range badNames() {
		r.noMake(1, name, 1, 0, api.ErrPathName)
		r.noMake(9, name, 2, 0, api.ErrPathName)
	}
	for k, name := range goodNames() {
		r.file(1, name, k+2)
		r.found(1, name, k+2)
	}
}

func TestMakeInNoDirectory(t *testing.T) { // P14.3: ahead of there being no inode
	r := begin(t)
	r.file(1, "a", 2)
	r.dir(1, "d", 3)
	for _, d := range noInodes() {
		r.noMake(d, "b", 1, 0, api.ErrFileInode)
	}
	r.noMake(2, "b", 1, 0, api.ErrDirKind)
	r.noMake(2, "a", 2, 0, api.ErrDirKind)
	r.noMake(1, "a", 1, 0, api.ErrDirThere)
	r.noMake(1, "a", 2, 0, api.ErrDirThere)
	r.noMake(1, "d", 1, 0, api.ErrDirThere)
	r.file(3, "a", 4) // the last inode; the same name elsewhere
	r.noMake(9, "b", 1, 0, api.ErrFileInode)
	r.noMake(4, "b", 1, 0, api.ErrDirKind)
	r.noMake(3, "a", 1, 0, api.ErrDirThere)
	r.noMake(3, "b", 1, 0, api.ErrSpaceInodes)
}

func TestNoInodeIsFree(t *testing.T) { // P14.3: ahead of a full directory, and of a full disk
	r := rigWith(t, 1200, 15, drawn{1: full(1067, 2)}) // inodes 2 to 15
	r.noMake(1, "b", 1, 0, api.ErrSpaceInodes)
	r.link(2, 1, "b")
	r.noMake(1, "c", 1, 0, api.ErrSpaceInodes)
	r = rigWith(t, 8, 3, drawn{1: {of(2, "a"), of(3, "b"), of(3, "c"), of(3, "d")}}) // data sectors 4 to 7
	r.noMake(1, "e", 1, 0, api.ErrSpaceInodes)
	r = rigWith(t, 8, 1, drawn{1: nil}) // the root alone
	r.noMake(1, "e", 2, 0, api.ErrSpaceInodes)
}

func TestADirectoryWithAllItsSlots(t *testing.T) { // P14.3: ahead of there being no sector
	r := rigWith(t, 1300, 40, drawn{1: full(1067, 2)})
	r.file(1, "last", 16)
	r.noMake(1, "b", 1, 0, api.ErrDirFull)
	r.noMake(1, "b", 2, 0, api.ErrDirFull)
	r.noMake(1, "last", 2, 0, api.ErrDirThere)
	r.unlink(1, "n700")
	r.file(1, "b", 17)
	r.noMake(1, "n700", 1, 0, api.ErrDirFull)

	r = rigWith(t, 1102+1+40, 40, drawn{1: full(1068, 2)}) // it has all sectors
	r.room(0, 0, 25)
	r.noMake(1, "b", 1, 0, api.ErrDirFull)
	r.unlink(1, "n0")
	r.file(1, "b", 16)
}

func TestNoSectorIsFree(t *testing.T) { // P14.3
	r := rigOf(t, 8, 6) // one data sector
	r.dir(1, "d", 2)
	r.noMake(1, "b", 1, 0, api.ErrSpaceBlocks)
	r.noMake(2, "b", 2, 0, api.ErrSpaceBlocks)
	r.room(0, 0, 4)
	r.rmdir(1, "d")
	r.file(1, "b", 2) // a slot that is there needs none
	r.list(1, aFile("b", 2))

	r = rigWith(t, 20, 5, drawn{1: full(12, 2)}) // data sectors 6 to 19: two are free
	r.file(1, "b", 3)                            // the slot and the table
	r.room(0, 0, 2)
	r.noMake(1, "c", 1, 0, api.ErrSpaceBlocks)
	r = rigWith(t, 19, 5, drawn{1: full(12, 2)}) // one is free
	r.noMake(1, "b", 1, 0, api.ErrSpaceBlocks)
	r.room(1, 0, 3)
}

func TestSectorsThatAreFreeLater(t *testing.T) { // P14.3: a Sync is made within, when no other ones are left
	r := rigOf(t, 11, 6) // data sectors 7 to 10
	r.file(1, "a", 2)
	r.is("Write", r.x.Files().Write(2, 0, make([]byte, 3*128)), api.OK)
	r.sync()
	r.unlink(1, "a")
	r.room(3, 3, 5)
	r.writes("Make in a slot that is there", 1, func() { r.file(1, "b", 2) }) // what was in the way
	r.room(3, 3, 4)
	r.writes("Make in a new one", 2, func() { r.file(1, "c", 3) })
	r.room(2, 0, 3)
	r.dirty(1, 3, 8)
	r.edges(3, 8, 8, 1)
}

func TestTheLeastInodeAndTheLeastSlot(t *testing.T) { // P14.3
	r := rigOf(t, 60, 8)
	r.file(1, "a", 2)
	r.file(1, "b", 3)
	r.file(1, "c", 4)
	r.unlink(1, "b")
	r.unlink(1, "c")
	r.dir(1, "e", 3)
	r.file(1, "f", 4)
	r.file(1, "g", 5)
	r.stat(api.Stat{Ino: 1, Kind: 2, Links: 1, Size: 512, Blocks: 4})
	r.sync()
	for k, want := range []api.Slot{of(2, "a"), of(3, "e"), of(4, "f"), of(5, "g")} {
		if s, _ := r.d.Read(9 + k); s != slotSector(t, want.Ino, want.Name) {
			t.Errorf("slot %d: %q", k, s[:8])
		}
	}
}

func TestMakeWhereASlotWasEmptied(t *testing.T) { // P14.3: what must land ahead of the inode that was given up is written, where it is in the way
	r := begin(t)
	r.file(1, "a", 2)
	r.sync()
	r.unlink(1, "a")
	r.edges(5, 2)
	r.writes("Make", 1, func() { r.file(1, "b", 2) }) // the empty slot
	if s, _ := r.d.Read(5); s != (api.Sector{}) {
		t.Errorf("sector 5: %q", s[:8])
	}
	r.dirty(2, 5)
	r.edges(2, 5)
}

func TestMakeWithATable(t *testing.T) { // P14.3: slots that have their pointers elsewhere
	r := rigOf(t, 120, 60)
	r.files(1, 0, 12) // slots at 61 to 72
	r.sync()
	r.file(1, "b", 14)
	r.edges(14, 73, 73, 74, 74, 1)
	r.sync()
	r.files(1, 12, 43) // up to slot 43
	r.sync()
	r.file(1, "c", 46)
	r.edges(46, 106, 106, 107, 107, 108, 108, 1) // the block, its table, the double one
	r.sync()
	r.file(1, "d", 47)
	r.edges(47, 109, 109, 107)
}

func TestANameThatStandsOnTheDisk(t *testing.T) { // P14.3: a name lands when the slot that had it has
	r := begin(t)
	r.file(1, "a", 2)
	r.file(1, "b", 3)
	r.sync()
	r.unlink(1, "b")
	r.unlink(1, "a")
	r.flush(5)
	r.dirty(2, 3, 6)
	r.edges(6, 3)
	r.dir(1, "b", 2)
	r.edges(2, 5, 6, 3, 6, 5) // slot 0, behind inode 2 and behind slot 1, where b stands
}
