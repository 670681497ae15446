package tree_test

import (
	"testing"

	"breakwater/api"
)

func TestRenameErrorsInTheirOrder(t *testing.T) { // P14.7: the old name, the new one, nothing to do, the new directory
	r := begin(t)
	r.file(1, "a", 2)
	r.dir(1, "d", 3)
	for _, d := range noInodes() {
		r.noRename(d, "a", 1, "b", api.ErrFileInode)
		r.noRename(d, "a", d, "a", api.ErrFileInode)
		r.noRename(d, "a", 2, "/", api.ErrFileInode)
		r.noRename(1, "a", d, "b", api.ErrFileInode)
		r.noRename(1, "d", d, "b", api.ErrFileInode)
		r.noRename(1, "a", d, "/", api.ErrPathName)
		r.noRename(1, "b", d, "/", api.ErrDirNone)
	}
	r.noRename(2, "a", 2, "a", api.ErrDirKind)
	r.noRename(2, "a", 9, "", api.ErrDirKind)
	r.noRename(1, "b", 1, "b", api.ErrDirNone)
	r.noRename(3, "a", 1, "a", api.ErrDirNone)
	for _, name := range badNames() {
		r.noRename(1, "a", 1, name, api.ErrPathName)
		r.noRename(1, "d", 3, name, api.ErrPathName)
		r.noRename(1, "a", 2, name, api.ErrPathName)
		r.noRename(1, name, 1, "b", api.ErrDirNone)
		r.noRename(1, name, 1, name, api.ErrDirNone)
	}
	r.noRename(1, "a", 2, "b", api.ErrDirKind)
	r.noRename(1, "d", 2, "b", api.ErrDirKind)
	r.noRename(1, "a", 1, "d", api.ErrDirThere)
	for k, name := range goodNames() {
		r.rename(1, append([]string{"a"}, goodNames()...)[k], 1, name)
		r.found(1, name, 2)
		r.hasLinks(2, 1)
		if name == "a" {
			r.list(1, aFile("a", 2), aDir("d", 3))
		}
	}
}

func TestRenameOntoItself(t *testing.T) { // P14.7: nothing, of a file, of a directory, of one with all entries that may be
	r := rigWith(t, 200, 6, ninetyNine())
	r.link(2, 3, "l")
	r.noRename(1, "n0", 1, "n0", api.OK)
	r.noRename(1, "d", 1, "d", api.OK)
	r.noRename(3, "l", 3, "l", api.OK)
	r.noRename(1, "n0", 1, "n1", api.OK) // another name of the same file
	r.noRename(1, "n0", 3, "l", api.OK)
	r.noRename(3, "l", 1, "n98", api.OK)
	r.hasLinks(2, 100)
}

func TestRenameOfAFile(t *testing.T) { // P14.7: the new slot, the old one behind all that shows it, the links behind that
	r := rigOf(t, 60, 8)
	r.made(1, "a", 1, 5, 2) // slot at 9
	r.dir(1, "d", 3)        // at 10
	r.sync()
	r.writes("Rename", 1, func() { r.rename(1, "a", 1, "b") }) // inode 2 with 2 links, at 11
	if s, _ := r.d.Read(2); s != inodeSector(t, api.Inode{Kind: 1, Links: 2, Made: 5}) {
		t.Errorf("inode 2: %v", s[:16])
	}
	r.dirty(1, 2, 9, 11)
	r.edges(1, 9, 9, 2, 11, 1, 11, 9)
	r.stat(api.Stat{Ino: 2, Kind: 1, Links: 1, Made: 5})
	r.list(1, aFile("b", 2), aDir("d", 3))
	r.sync()

	r.writes("Rename into another directory", 1, func() { r.rename(1, "b", 3, "c") }) // at 12
	r.dirty(2, 3, 11, 12)
	r.edges(3, 11, 11, 2, 12, 3, 12, 11)
	r.list(1, aDir("d", 3))
	r.list(3, aFile("c", 2))
	r.hasLinks(2, 1)
	r.sync()

	r.rename(3, "c", 1, "a") // into the least slot, at 9, that is empty and there
	r.dirty(2, 9, 12)
	r.edges(9, 12, 12, 2)
	r.list(1, aFile("a", 2), aDir("d", 3))
}

func TestRenameOfAFileWithOtherEntries(t *testing.T) { // P14.7: the old slot is behind all of them, the new one too
	r := rigOf(t, 60, 8)
	r.file(1, "a", 2) // slot at 9
	r.dir(1, "d", 3)  // at 10
	r.dir(1, "e", 4)  // at 11
	r.sync()
	r.link(2, 3, "l")        // at 12
	r.rename(1, "a", 4, "b") // at 13
	r.dirty(2, 3, 4, 9, 12, 13)
	r.edges(3, 9, 4, 9, 9, 2, 12, 3, 12, 9, 13, 4, 13, 9)
	r.hasLinks(2, 2)
	r.sync()
	r.unlink(3, "l")
	r.hasLinks(2, 1)
	r.edges(12, 2)
	r.unlink(4, "b")
	r.gone(2)
}

func TestRenameOntoAFileWithOneEntry(t *testing.T) { // P14.7: that one is given up, behind its slot
	r := rigOf(t, 60, 8)
	r.file(1, "a", 2) // slot at 9
	r.file(1, "b", 3) // at 10
	r.is("Write", r.x.Files().Write(3, 0, make([]byte, 200)), api.OK)
	r.sync()
	r.room(47, 0, 5)
	r.writes("Rename", 1, func() { r.rename(1, "a", 1, "b") }) // inode 2 with 2 links
	r.dirty(2, 3, 9, 10)
	r.edges(9, 2, 10, 3, 10, 9)
	r.list(1, aFile("b", 2))
	r.gone(3)
	r.hasLinks(2, 1)
	r.room(49, 2, 6)
	r.sync()
	r.room(49, 0, 6)
	r.stat(api.Stat{Ino: 1, Kind: 2, Links: 1, Size: 256, Blocks: 2})
}

func TestRenameOntoAFileWithSeveralEntries(t *testing.T) { // P14.7: its slot waits for what shows the others
	r := rigOf(t, 60, 8)
	r.file(1, "a", 2) // slot at 9
	r.file(1, "b", 3) // at 10
	r.sync()
	r.link(3, 1, "c")                                          // at 11
	r.writes("Rename", 2, func() { r.rename(1, "a", 1, "b") }) // both inodes, with 2 links each
	for _, i := range []int{2, 3} {
		if s, _ := r.d.Read(i); s != inodeSector(t, api.Inode{Kind: 1, Links: 2}) {
			t.Errorf("inode %d: %v", i, s[:16])
		}
	}
	r.dirty(1, 2, 3, 9, 10, 11)
	r.edges(1, 9, 1, 10, 9, 2, 10, 3, 10, 9, 11, 1, 11, 10)
	r.list(1, aFile("b", 2), aFile("c", 3))
	r.hasLinks(2, 1)
	r.hasLinks(3, 1)
	r.sync()
	r.unlink(1, "c")
	r.gone(3)
	r.edges(11, 3)
}

func TestRenameOntoAFileElsewhere(t *testing.T) { // P14.7: in another directory, both with entries in a third one
	r := rigOf(t, 60, 8)
	r.dir(1, "d", 2)  // slot at 9
	r.dir(1, "e", 3)  // at 10
	r.file(1, "a", 4) // at 11
	r.file(2, "b", 5) // at 12
	r.sync()
	r.link(4, 3, "x")        // at 13
	r.link(5, 3, "y")        // at 14
	r.rename(1, "a", 2, "b") // at 12, behind 14 and 3; 11 behind 13, 3 and 12
	r.dirty(3, 4, 5, 11, 12, 13, 14)
	r.edges(3, 11, 3, 12, 11, 4, 12, 5, 12, 11, 13, 3, 13, 11, 14, 3, 14, 12)
	r.hasLinks(4, 2)
	r.hasLinks(5, 1)
	r.list(1, aDir("d", 2), aDir("e", 3))
	r.list(2, aFile("b", 4))
	r.list(3, aFile("x", 4), aFile("y", 5))
}

func TestRenameOntoDirectories(t *testing.T) { // P14.7: never; and of directories onto nothing that is there
	r := rigWith(t, 200, 6, ninetyNine())
	r.dir(1, "e", 4)
	r.file(1, "f", 5)
	r.noRename(1, "f", 1, "d", api.ErrDirThere)
	r.noRename(1, "d", 1, "f", api.ErrDirThere)
	r.noRename(1, "d", 1, "e", api.ErrDirThere)
	r.noRename(1, "n0", 1, "d", api.ErrDirThere)
	r.link(2, 3, "l")
	r.noRename(1, "n0", 1, "d", api.ErrDirThere) // ahead of there being too many entries
	r.dir(3, "in", 6)
	r.noRename(1, "d", 3, "l", api.ErrDirThere) // ahead of its lying in itself
	r.noRename(1, "d", 3, "in", api.ErrDirThere)
	r.noRename(1, "d", 3, "out", api.ErrTreeLoop)
}

func TestRenameOfAFileWithManyEntries(t *testing.T) { // P14.7: in between it has one more
	r := rigWith(t, 200, 6, ninetyNine())
	r.file(1, "f", 4)
	r.rename(1, "n7", 3, "x")
	r.hasLinks(2, 99)
	r.rename(3, "x", 1, "f") // onto another one
	r.gone(4)
	r.hasLinks(2, 99)
	r.link(2, 3, "y")
	r.file(1, "g", 4)
	r.noRename(1, "n8", 1, "new", api.ErrTreeLinks)
	r.noRename(1, "n8", 3, "new", api.ErrTreeLinks)
	r.noRename(1, "n8", 1, "g", api.ErrTreeLinks)
	r.noRename(3, "y", 1, "g", api.ErrTreeLinks)
	r.rename(1, "g", 3, "y") // what it is renamed onto may have as many as may be
	r.hasLinks(2, 99)
}

func TestRenameWithoutRoom(t *testing.T) { // P14.7: no slot, then no sector; none is needed, where the name is there
	x := drawn{1: full(1067, 4), 3: nil}
	x[1] = append(x[1], of(3, "d"))
	r := rigWith(t, 1102+1+20, 20, x)
	r.room(0, 0, 4)
	r.noRename(1, "n0", 1, "new", api.ErrDirFull)
	r.noRename(1, "d", 1, "new", api.ErrDirFull)
	r.noRename(1, "n0", 3, "new", api.ErrSpaceBlocks)
	r.noRename(1, "d", 3, "new", api.ErrTreeLoop)
	r.rename(1, "n0", 1, "n1066")
	r.rename(1, "n1", 1, "new") // the slot of n0 is empty
	r.rename(1, "d", 1, "e")
	r.found(1, "e", 3)
	r.missing(1, "d", api.ErrDirNone)

	r = rigOf(t, 9, 6) // two data sectors
	r.dir(1, "d", 2)
	r.dir(1, "e", 3)
	r.noRename(1, "d", 3, "x", api.ErrSpaceBlocks)
	r.noRename(1, "d", 1, "x", api.ErrSpaceBlocks)
	r.noRename(1, "d", 2, "x", api.ErrTreeLoop)
	r.list(1, aDir("d", 2), aDir("e", 3))
}

func TestAFullRootThatIsFullOfLinks(t *testing.T) { // P14.7: too many entries, ahead of there being no slot
	x := ninetyNine()
	for k := 100; k < 1068; k++ {
		x[1] = append(x[1], of(4+k/80, "m"+count(k)))
	}
	r := rigWith(t, 1300, 20, x)
	r.link(2, 3, "l")
	r.noRename(1, "n0", 1, "new", api.ErrTreeLinks)
	r.noRename(3, "l", 1, "new", api.ErrTreeLinks)
	r.unlink(3, "l")
	r.noRename(1, "n0", 1, "new", api.ErrDirFull)
	r.rename(1, "n0", 3, "new")
}

func TestRenameWithWhatIsFreeLater(t *testing.T) { // P14.7: a Sync is made within, of a file and of a directory
	for _, kind := range []int{api.KindFile, api.KindDir} {
		r := rigOf(t, 11, 6) // data sectors 7 to 10
		r.made(1, "a", kind, 0, 2)
		r.dir(1, "d", 3)
		r.file(1, "b", 4)
		r.is("Write", r.x.Files().Write(4, 0, []byte{1}), api.OK)
		r.noRename(1, "a", 3, "x", api.ErrSpaceBlocks)
		r.sync()
		r.unlink(1, "b")
		r.room(1, 1, 3)
		r.rename(1, "a", 3, "x")
		r.room(0, 0, 3)
		r.list(1, aDir("d", 3))
		r.list(3, api.Entry{Name: "x", Ino: 2, Kind: kind})
	}
}

func TestRenameOfADirectoryLandsWhole(t *testing.T) { // P14.7: which writes there are, and in which order
	begin := func() *rig {
		r := rigOf(t, 60, 8)
		r.made(1, "d", 2, 4, 2) // slot at 9
		r.dir(1, "e", 3)        // at 10
		r.sync()
		r.file(1, "z", 4) // at 11: it lands ahead of all
		r.room(48, 0, 4)
		return r
	}
	moved := slotSector(t, 2, "x")
	images := []map[int]api.Sector{ // behind so many writes
		{4: {}, 9: slotSector(t, 2, "d")},
		{4: inodeSector(t, api.Inode{Kind: 1, Links: 1}), 11: {}},
		{11: slotSector(t, 4, "z"), 1: inodeSector(t, api.Inode{Kind: 2, Links: 1, Size: 256, Direct: [12]int{9, 10}})},
		{1: inodeSector(t, api.Inode{Kind: 2, Links: 1, Size: 384, Direct: [12]int{9, 10, 11}}), 2: inodeSector(t, api.Inode{Kind: 2, Links: 1, Made: 4})},
		{2: inodeSector(t, api.Inode{Kind: 2, Links: 2, Made: 4}), 12: {}},
		{12: moved, 3: inodeSector(t, api.Inode{Kind: 2, Links: 1}), 9: slotSector(t, 2, "d")},
		{3: inodeSector(t, api.Inode{Kind: 2, Links: 1, Size: 128, Direct: [12]int{12}}), 9: slotSector(t, 2, "d")},
		{9: {}, 2: inodeSector(t, api.Inode{Kind: 2, Links: 2, Made: 4})},
		{2: inodeSector(t, api.Inode{Kind: 2, Links: 1, Made: 4}), 9: {}, 12: moved},
	}
	for writes, want := range images {
		r := begin()
		r.is("Arm", r.d.Arm(writes), api.OK)
		e := r.x.Rename(1, "d", 3, "x")
		if (e == api.OK) != (writes == len(images)-1) || e != api.OK && e != api.ErrDiskDown {
			t.Errorf("behind %d writes: %d", writes, e)
		}
		for n, s := range want {
			if got := r.d.Image()[n]; got != s {
				t.Errorf("behind %d writes: sector %d: %v, want %v", writes, n, got[:20], s[:20])
			}
		}
		if why := unsound(r.d.Image(), true); why != "" {
			t.Errorf("behind %d writes: %s", writes, why)
		}
	}
	r := begin()
	r.rename(1, "d", 3, "x")
	r.dirty()
	r.edges()
	r.list(1, aDir("e", 3), aFile("z", 4))
	r.list(3, aDir("x", 2))
	r.stat(api.Stat{Ino: 2, Kind: 2, Links: 1, Made: 4})
}

func TestRenameOfADirectorySettles(t *testing.T) { // P14.7: what was free later is free behind it
	r := rigOf(t, 60, 8)
	r.dir(1, "d", 2)
	r.file(1, "a", 3)
	r.is("Write", r.x.Files().Write(3, 0, []byte{1}), api.OK)
	r.sync()
	r.unlink(1, "a")
	r.room(49, 1, 6)
	r.rename(1, "d", 1, "e")
	if tags := r.x.Cache().Landed(); len(tags) > 0 {
		t.Errorf("the space was not told of %v", tags)
	}
	r.room(49, 0, 6)
	r.list(1, aDir("e", 2))
	r.stat(api.Stat{Ino: 1, Kind: 2, Links: 1, Size: 256, Blocks: 2})
}

func TestADirectoryInItself(t *testing.T) { // P14.7: however deep
	r := rigOf(t, 80, 10)
	r.dir(1, "a", 2)
	r.dir(2, "b", 3)
	r.dir(3, "c", 4)
	r.dir(4, "d", 5)
	r.dir(1, "z", 6)
	for _, to := range []int{2, 3, 4, 5} {
		r.noRename(1, "a", to, "x", api.ErrTreeLoop)
	}
	for _, to := range []int{3, 4, 5} {
		r.noRename(2, "b", to, "x", api.ErrTreeLoop)
	}
	r.noRename(2, "b", 3, "c", api.ErrDirThere)
	r.noRename(4, "d", 5, "d", api.ErrTreeLoop)
	r.rename(2, "b", 6, "b") // beside
	r.noRename(1, "z", 5, "x", api.ErrTreeLoop)
	r.rename(1, "a", 5, "a") // what lay above it lies in it now
	r.noRename(6, "b", 2, "x", api.ErrTreeLoop)
	r.rename(3, "c", 1, "c") // upwards
	r.rename(1, "z", 2, "z") // and down again
	r.list(1, aDir("c", 4))
	r.list(2, aDir("z", 6))
	r.list(3)
	r.list(4, aDir("d", 5))
	r.list(5, aDir("a", 2))
	r.list(6, aDir("b", 3))
	for _, i := range []int{1, 2, 3, 4, 5, 6} {
		r.hasLinks(i, 1)
	}
	r.rename(6, "b", 6, "e") // where it is
	r.rename(6, "e", 6, "b")
	r.list(6, aDir("b", 3))
}

func TestWhatShowsAnEntryIsShownWhereItWasMoved(t *testing.T) { // P14.7: a directory's place is the new one
	r := rigOf(t, 60, 8)
	r.dir(1, "d", 2)         // slot at 9
	r.dir(1, "e", 3)         // at 10
	r.file(1, "a", 4)        // at 11
	r.rename(1, "d", 3, "x") // at 12
	r.file(3, "y", 5)        // at 13: the inode of 3 is dirty
	r.file(1, "z", 6)        // at 9, where d was
	r.link(4, 2, "l")        // at 14
	r.edges(4, 14, 5, 13, 6, 9, 13, 3, 14, 2)
	r.unlink(1, "a") // behind 14, 2, and 3; 9 shows nothing of it
	r.edges(2, 11, 3, 11, 5, 13, 6, 9, 11, 4, 13, 3, 14, 2, 14, 11)
}

func TestANameThatComesBack(t *testing.T) { // P14.7, P14.8: renamed to and fro, at any landing it is there once
	begin := func() *rig {
		r := rigOf(t, 40, 8)
		r.file(1, "a", 2)
		r.dir(1, "d", 3)
		r.sync()
		r.rename(1, "a", 3, "b")
		r.rename(3, "b", 1, "a")
		return r
	}
	everyOrder(t, begin, func(names map[string]int) {
		if names["/a"] != 2 && names["/d/b"] != 2 {
			t.Errorf("there are %v", names)
		}
	})
	everyOrder(t, func() *rig {
		r := rigOf(t, 40, 8)
		r.file(1, "a", 2)
		r.file(1, "b", 3)
		r.sync()
		r.link(3, 1, "c")
		r.rename(1, "a", 1, "b")
		return r
	}, func(names map[string]int) {
		a, b, c := names["/a"], names["/b"], names["/c"]
		if a == 0 && b != 2 || b == 2 && c == 0 || b == 0 {
			t.Errorf("there are %v", names)
		}
	})
}
