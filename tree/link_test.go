package tree_test

import (
	"testing"

	"breakwater/api"
)

func TestLink(t *testing.T) { // P14.4: what is put and set
	r := rigOf(t, 60, 8)
	r.made(1, "a", 1, 5, 2) // slot at 9
	r.dir(1, "d", 3)        // slot at 10
	r.is("Write", r.x.Files().Write(2, 0, []byte("hello")), api.OK)
	r.sync()
	r.link(2, 3, "b") // slot at 12
	r.edges(2, 12, 12, 3)
	r.stat(api.Stat{Ino: 2, Kind: 1, Links: 2, Size: 5, Made: 5, Blocks: 1})
	r.link(2, 1, "c")
	r.edges(2, 12, 2, 13, 12, 3, 13, 1)
	r.dirty(1, 2, 3, 12, 13)
	r.hasLinks(2, 3)
	r.list(1, aFile("a", 2), aFile("c", 2), aDir("d", 3))
	r.list(3, aFile("b", 2))
	if data, e := r.x.Files().Read(2, 0, 9); string(data) != "hello" || e != api.OK {
		t.Errorf("Read: %q, %d", data, e)
	}
	r.sync()
	r.link(2, 3, "d") // into a slot of a directory that has one
	r.edges(2, 14, 14, 3)
}

func TestLinkAheadOfALanding(t *testing.T) { // P14.4: of a file that was just made
	r := begin(t)
	r.file(1, "a", 2)
	r.link(2, 1, "b")
	r.dirty(1, 2, 5, 6)
	r.edges(2, 5, 2, 6, 5, 1, 6, 1)
	r.flush(2)
	if s, _ := r.d.Read(2); s != inodeSector(t, api.Inode{Kind: 1, Links: 2}) {
		t.Errorf("inode 2: %v", s[:16])
	}
}

func TestLinkErrorsInTheirOrder(t *testing.T) { // P14.4: names, the directory, the name there, the inode, its kind
	r := begin(t)
	r.file(1, "a", 2)
	r.dir(1, "d", 3)
	for _, name := range badNames() {
		r.noLink(2, 1, name, api.ErrPathName)
		r.noLink(9, 9, name, api.ErrPathName)
		r.noLink(3, 2, name, api.ErrPathName)
	}
	for _, d := range noInodes() {
		r.noLink(2, d, "b", api.ErrFileInode)
		r.noLink(d, 1, "b", api.ErrFileInode)
		r.noLink(d, 1, "a", api.ErrDirThere)
		r.noLink(d, 2, "b", api.ErrDirKind)
	}
	r.noLink(2, 2, "b", api.ErrDirKind)
	r.noLink(3, 2, "b", api.ErrDirKind)
	r.noLink(2, 1, "a", api.ErrDirThere)
	r.noLink(2, 1, "d", api.ErrDirThere)
	r.noLink(3, 1, "d", api.ErrDirThere)
	r.noLink(3, 1, "b", api.ErrFileKind)
	r.noLink(3, 3, "b", api.ErrFileKind)
	r.noLink(1, 3, "b", api.ErrFileKind) // the root
	for k, name := range goodNames()[2:] {
		r.link(2, 3, name)
		r.hasLinks(2, 2+k)
	}
}

// ninetyNine is a file, inode 2, with 99 entries in the root; inode 3 is a directory.
func ninetyNine() drawn {
	x := drawn{1: {of(3, "d")}, 3: nil}
	for k := range 99 {
		x[1] = append(x[1], of(2, count(k)))
	}
	return x
}

func TestAFileWithManyEntries(t *testing.T) { // P14.4: 99 are one less than may be
	r := rigWith(t, 200, 6, ninetyNine())
	r.hasLinks(2, 99)
	r.link(2, 3, "a")
	r.hasLinks(2, 100)
	r.noLink(2, 3, "b", api.ErrTreeLinks)
	r.noLink(2, 1, "b", api.ErrTreeLinks)
	r.noLink(2, 3, "a", api.ErrDirThere)
	r.unlink(1, count(50))
	r.hasLinks(2, 99)
	r.link(2, 1, "b")
	r.hasLinks(2, 100)
	r.noLink(2, 1, "c", api.ErrTreeLinks)
	for k := range 99 {
		if k != 50 {
			r.unlink(1, count(k))
		}
	}
	r.hasLinks(2, 2)
	r.unlink(1, "b")
	r.unlink(3, "a")
	r.gone(2)
}

func TestLinkWithoutRoom(t *testing.T) { // P14.4: too many links, no slot, no sector, in this order
	x := ninetyNine()
	for k := 100; k < 1068; k++ {
		x[1] = append(x[1], of(4+k/80, "m"+count(k)))
	}
	r := rigWith(t, 1102+1+20, 20, x)
	r.room(0, 0, 4)
	r.noLink(6, 1, "b", api.ErrDirFull)
	r.noLink(6, 3, "b", api.ErrSpaceBlocks)
	r.unlink(1, "m"+count(1000))
	r.link(2, 1, "b") // the slot is there
	r.noLink(2, 1, "c", api.ErrTreeLinks)
	r.noLink(2, 3, "c", api.ErrTreeLinks)
	r.noLink(6, 1, "c", api.ErrDirFull)
	r.noLink(6, 3, "c", api.ErrSpaceBlocks)
}

func TestLinkWithWhatIsFreeLater(t *testing.T) { // P14.4: a Sync is made within
	r := rigOf(t, 11, 6) // data sectors 7 to 10
	r.file(1, "a", 2)
	r.file(1, "b", 3)
	r.is("Write", r.x.Files().Write(3, 0, make([]byte, 2*128)), api.OK)
	r.sync()
	r.is("Truncate", r.x.Files().Truncate(3, 128), api.OK) // 10 is free
	r.link(2, 1, "c")
	r.sync()
	r.unlink(1, "b")
	r.room(1, 1, 4)
	r.writes("Link in a slot that is there", 0, func() { r.link(2, 1, "d") })
	r.edges(2, 8, 8, 3)
	r.writes("Link in a new one", 3, func() { r.link(2, 1, "e") })
	r.room(0, 0, 4)
	r.edges(2, 9, 9, 1)
}
