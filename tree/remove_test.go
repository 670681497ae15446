package tree_test

import (
	"testing"

	"breakwater/api"
)

func TestUnlinkOfTheLastEntry(t *testing.T) { // P14.5: the inode is given up behind the slot
	r := rigOf(t, 60, 8)
	r.file(1, "a", 2) // slot at 9
	r.is("Write", r.x.Files().Write(2, 0, make([]byte, 300)), api.OK)
	r.sync()
	r.room(47, 0, 6)
	r.writes("Unlink", 0, func() { r.unlink(1, "a") })
	r.dirty(2, 9)
	r.edges(9, 2)
	r.missing(1, "a", api.ErrDirNone)
	r.gone(2)
	r.room(50, 3, 7) // its sectors are free when it has landed
	r.flush(9)
	r.room(50, 3, 7)
	r.flush(2)
	r.room(50, 0, 7)
	for _, n := range []int{2, 9} {
		if s, _ := r.d.Read(n); s != (api.Sector{}) {
			t.Errorf("sector %d: %v", n, s[:16])
		}
	}
}

func TestUnlinkAheadOfALanding(t *testing.T) { // P14.5: the inode lands as it was, since it stands in the way
	r := rigOf(t, 60, 8)
	r.file(1, "a", 2)
	r.writes("Unlink", 1, func() { r.unlink(1, "a") })
	r.dirty(1, 2, 9)
	r.edges(9, 1, 9, 2)
	if s, _ := r.d.Read(2); s != inodeSector(t, api.Inode{Kind: 1, Links: 1}) {
		t.Errorf("inode 2: %v", s[:16])
	}
	r.gone(2)
}

func TestUnlinkOfOneOfSeveral(t *testing.T) { // P14.5: behind all that shows the other ones
	r := rigOf(t, 60, 8)
	r.dir(1, "d", 2)  // slot at 9
	r.dir(2, "e", 3)  // at 10
	r.file(1, "a", 4) // at 11
	r.sync()
	r.link(4, 3, "x") // at 12
	r.link(4, 2, "y") // at 13
	r.writes("Unlink", 1, func() { r.unlink(1, "a") })
	r.dirty(2, 3, 4, 11, 12, 13)
	r.edges(2, 11, 3, 11, 11, 4, 12, 3, 12, 11, 13, 2, 13, 11)
	if s, _ := r.d.Read(4); s != inodeSector(t, api.Inode{Kind: 1, Links: 3}) { // it was in the way
		t.Errorf("inode 4: %v", s[:16])
	}
	r.hasLinks(4, 2)
	r.sync()
	r.writes("Unlink, where the other one stands", 0, func() { r.unlink(3, "x") })
	r.edges(12, 4)
	r.hasLinks(4, 1)
	r.unlink(2, "y")
	r.edges(12, 4, 13, 4)
	r.gone(4)
}

func TestWhatShowsAnEntryGoesUpToTheRoot(t *testing.T) { // P14.5: its directory's own entry, and that one's, too
	r := rigOf(t, 60, 8)
	r.file(1, "a", 2) // slot at 9
	r.sync()
	r.dir(1, "d", 3)  // at 10
	r.link(2, 3, "b") // at 11
	r.unlink(1, "a")
	r.edges(1, 9, 3, 9, 3, 10, 9, 2, 10, 1, 10, 9, 11, 3, 11, 9)

	r = rigOf(t, 60, 8)
	r.file(1, "a", 2) // slot at 9
	r.dir(1, "d", 3)  // at 10
	r.dir(3, "e", 4)  // at 11
	r.sync()
	r.rename(1, "d", 1, "f") // at 12; all of it lands
	r.file(1, "z", 5)        // at 10: the root's other slots show nothing of it
	r.dir(4, "g", 6)         // at 13
	r.link(2, 6, "b")        // at 14
	r.edges(2, 14, 5, 10, 6, 13, 13, 4, 14, 6)
	r.unlink(1, "a")
	r.edges(4, 9, 5, 10, 6, 9, 6, 13, 9, 2, 13, 4, 13, 9, 14, 6, 14, 9)
}

func TestWhatShowsAnEntryHasTables(t *testing.T) { // P14.5: those on its way
	r := rigOf(t, 80, 20)
	r.files(1, 0, 12) // inodes 2 to 13, slots at 21 to 32
	r.sync()
	r.link(2, 1, "b") // at 33, table 34
	r.edges(2, 33, 33, 34, 34, 1)
	r.unlink(1, "n0")
	r.edges(1, 21, 21, 2, 33, 21, 33, 34, 34, 1, 34, 21)
}

func TestUnlinkErrors(t *testing.T) { // P14.5: what dir.Find tells, then the kind
	r := begin(t)
	r.file(1, "a", 2)
	r.dir(1, "d", 3)
	for _, d := range noInodes() {
		r.noUnlink(d, "a", api.ErrFileInode)
		r.noRmdir(d, "d", api.ErrFileInode)
	}
	r.noUnlink(2, "a", api.ErrDirKind)
	r.noRmdir(2, "a", api.ErrDirKind)
	for _, name := range append(badNames(), "b") { // what may not be is not there
		r.noUnlink(1, name, api.ErrDirNone)
		r.noUnlink(3, name, api.ErrDirNone)
		r.noRmdir(1, name, api.ErrDirNone)
		r.noRmdir(3, name, api.ErrDirNone)
	}
	r.noUnlink(3, "a", api.ErrDirNone)
	r.noUnlink(1, "d", api.ErrFileKind)
	r.noRmdir(1, "a", api.ErrDirKind)
	r.file(3, "x", 4)
	r.noUnlink(1, "d", api.ErrFileKind)
	r.noRmdir(1, "d", api.ErrTreeFull)
}

func TestRmdir(t *testing.T) { // P14.6
	r := rigOf(t, 60, 8)
	r.dir(1, "d", 2) // slot at 9
	r.sync()
	r.writes("Rmdir", 0, func() { r.rmdir(1, "d") })
	r.dirty(2, 9)
	r.edges(9, 2)
	r.gone(2)
	r.missing(1, "d", api.ErrDirNone)
	r.list(1)
	r.room(50, 0, 7)
	r.sync()
	if s, _ := r.d.Read(2); s != (api.Sector{}) {
		t.Errorf("inode 2: %v", s[:16])
	}
}

func TestRmdirOfADirectoryWithEntries(t *testing.T) { // P14.6: in whichever slot
	r := rigOf(t, 60, 8)
	r.dir(1, "d", 2)
	r.file(2, "x", 3)
	r.dir(2, "y", 4)
	r.noRmdir(1, "d", api.ErrTreeFull)
	r.unlink(2, "x")
	r.noRmdir(1, "d", api.ErrTreeFull) // the second slot
	r.rmdir(2, "y")
	r.rmdir(1, "d")
	r.gone(2)
	r.room(50, 2, 7) // the root's slot; both slots of d are free later
}

func TestRmdirWaitsForItsSlots(t *testing.T) { // P14.6: for those that are dirty
	r := rigOf(t, 60, 8)
	r.dir(1, "d", 2)  // slot at 9
	r.file(2, "x", 3) // at 10
	r.file(2, "y", 4) // at 11
	r.file(2, "z", 5) // at 12
	r.sync()
	r.unlink(2, "x")
	r.unlink(2, "y")
	r.unlink(2, "z")
	r.flush(11)
	r.edges(10, 3, 12, 5)
	r.rmdir(1, "d")
	r.dirty(2, 3, 4, 5, 9, 10, 12)
	r.edges(9, 2, 10, 2, 10, 3, 10, 9, 12, 2, 12, 5, 12, 9)
	r.room(50, 3, 7) // of 51 the root has one
	r.sync()
	r.room(50, 0, 7)
}

func TestRmdirOfSlotsThatAreEmptyButThere(t *testing.T) { // P14.6: 13 of them, and a table; all are free when the inode has landed
	r := rigOf(t, 80, 20)
	r.dir(1, "d", 2)  // slot at 21
	r.files(2, 0, 13) // inodes 3 to 15
	r.sync()
	for k := range 13 {
		r.noRmdir(1, "d", api.ErrTreeFull)
		r.unlink(2, count(k))
	}
	r.stat(api.Stat{Ino: 2, Kind: 2, Links: 1, Size: 13 * 128, Blocks: 14})
	r.sync()
	r.rmdir(1, "d")
	r.edges(21, 2)
	r.room(58, 14, 19)
	r.flush(21)
	r.room(58, 14, 19)
	r.flush(2)
	r.room(58, 0, 19)
}

func TestRmdirAheadOfALanding(t *testing.T) { // P14.6: what was made lands ahead of being taken away
	r := rigOf(t, 60, 8)
	r.dir(1, "d", 2)
	r.writes("Rmdir", 1, func() { r.rmdir(1, "d") })
	r.dirty(1, 2, 9)
	r.edges(9, 1, 9, 2)
	r.dir(1, "e", 2)
	r.list(1, aDir("e", 2))
	r.list(2)
}

func TestAnInodeThatWasGivenUpIsAnother(t *testing.T) { // P14.5, P14.6: what had been known of its places is gone
	r := rigOf(t, 60, 8)
	r.file(1, "a", 2)
	r.link(2, 1, "b")
	r.unlink(1, "a")
	r.unlink(1, "b")
	r.dir(1, "d", 2)
	r.file(2, "x", 3)
	r.unlink(2, "x")
	r.rmdir(1, "d")
	r.file(1, "e", 2)
	r.hasLinks(2, 1)
	r.sync()
	r.unlink(1, "e") // it is the last one
	r.gone(2)
	r.edges(9, 2)
}

func TestAFileThatWasMovedOut(t *testing.T) { // DOC.md, example 7: in whichever order sectors land, it has a name; the directory is gone only if the new one stands
	begin := func() *rig {
		r := rigOf(t, 40, 8)
		r.dir(1, "d", 2)
		r.made(2, "f", 1, 7, 3)
		r.sync()
		r.rename(2, "f", 1, "f")
		r.rmdir(1, "d")
		return r
	}
	everyOrder(t, begin, func(names map[string]int) {
		if names["/f"]+names["/d/f"] == 0 || names["/d"] == 0 && names["/f"] == 0 {
			t.Errorf("there are %v", names)
		}
	})
}

func TestAnEntryOfTwo(t *testing.T) { // DOC.md, example 6: the other one is there, whenever the power goes
	begin := func() *rig {
		r := rigOf(t, 40, 8)
		r.file(1, "a", 2)
		r.sync()
		r.link(2, 1, "b")
		r.unlink(1, "a")
		return r
	}
	everyOrder(t, begin, func(names map[string]int) {
		if names["/a"]+names["/b"] == 0 {
			t.Errorf("there are %v", names)
		}
	})
}
