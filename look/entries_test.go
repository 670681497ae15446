package look_test

import (
	"slices"
	"strconv"
	"strings"
	"testing"

	"breakwater/api"
)

// withSlot is an image of 16 sectors in which the root's first slot is any sector, and the second one, b, names the file 2.
func withSlot(t *testing.T, s api.Sector) *draft {
	d := small(t, root(5, 6))
	d.image[5] = s
	d.slot(6, 2, "b")
	d.inode(2, file(0))
	return d
}

func TestSlotsThatAreRefused(t *testing.T) { // P12.1
	long := api.Sector{0: 2, 4: 41}
	copy(long[5:], strings.Repeat("x", 41))
	for _, s := range []api.Sector{
		{127: 1}, {0: 2}, {4: 1, 5: 'a'}, {0: 2, 4: 1}, {0: 2, 4: 1, 5: '/'}, {0: 2, 4: 1, 5: '.'}, {0: 2, 4: 2, 5: '.', 6: '.'}, {0: 2, 4: 2, 5: 'a'},
		{0: 2, 4: 1, 5: 'a', 6: 'b'}, {0: 2, 4: 1, 5: 'a', 127: 1}, {0: 1, 1: 2, 4: 1, 5: 'a'}, {0: 2, 3: 1, 4: 1, 5: 'a'}, {0: 2, 4: 255, 5: 'a'}, long,
	} {
		d := withSlot(t, s)
		r := d.tells("no slot", list(5), list(1, 2), list(5, 6))
		if r.Want[5] != (api.Sector{}) || r.Want[6] != d.image[6] {
			t.Errorf("no slot: %v", r.Want[5])
		}
	}
}

func TestSlotsThatAreEmptyOrHoles(t *testing.T) { // P12.1
	d := withSlot(t, api.Sector{})
	d.tells("empty", nil, list(1, 2), list(5, 6))
	d.inode(1, root(0, 6))
	d.tells("a hole", nil, list(1, 2), list(6))
	d.inode(1, root(0, 0, 0))
	d.tells("holes alone", list(2), list(1), nil)
}

func TestEntriesOfNoInode(t *testing.T) { // P12.1: above Inodes, or not sound
	for _, i := range list(5, 6, 15, 16, 17, 511, 512) {
		d := small(t, root(9, 10))
		d.slot(9, i, "a")
		d.slot(10, 2, "b")
		d.inode(2, file(0))
		// A data sector that could be read as an inode is none.
		if i < 16 {
			d.inode(i, file(0))
		}
		d.tells("above Inodes", list(9), list(1, 2), list(9, 10))
	}
	d := withSlot(t, api.Sector{})
	d.slot(5, 4, "a")
	d.tells("free", list(5), list(1, 2), list(5, 6))
	for at, with := range map[int]byte{0: 3, 1: 101, 2: 1, 3: 255, 7: 1, 14: 1, 72: 1, 127: 1} {
		d.inode(4, file(0))
		d.image[4][at] = with
		r := d.tells("spoilt", list(5, 4), list(1, 2), list(5, 6))
		d.inodeIs("spoilt", r, 4, api.Inode{})
	}
	d.inode(4, root())
	d.resize(4, 100)
	d.tells("a directory of 100 bytes", list(5, 4), list(1, 2), list(5, 6))
	d.inode(4, file(100))
	d.tells("the last inode", nil, list(1, 2, 4), list(5, 6))
}

func TestEntriesOfTheLastInodes(t *testing.T) { // P12.1
	d := draftOf(t, 4096, 512)
	d.inode(1, root(513, 4095, 514))
	d.slot(513, 512, "a")
	d.slot(4095, 511, "b")
	d.slot(514, 2, "c")
	d.inode(512, file(128, 4094))
	d.inode(511, file(128, 4096))
	d.inode(2, file(128, 512))
	d.tells("512 inodes", list(2, 511), list(1, 2, 511, 512), list(513, 514, 4094, 4095))
}

func TestEntriesOfTheRoot(t *testing.T) { // P12.1
	d := withSlot(t, api.Sector{})
	d.slot(5, 1, "a")
	d.tells("the root in itself", list(5), list(1, 2), list(5, 6))
	d.slot(5, 3, "a")
	d.inode(3, root(7))
	d.slot(7, 1, "up")
	r := d.tells("the root further down", list(7), list(1, 2, 3), list(5, 6, 7))
	d.inodeIs("the root further down", r, 1, root(5, 6))
}

func TestNamesThatStandAlready(t *testing.T) { // P12.1
	d := withSlot(t, api.Sector{})
	d.inode(3, file(0))
	d.slot(5, 3, "b")
	d.tells("the first one stays", list(6, 2), list(1, 3), list(5, 6))
	d.slot(5, 2, "b")
	d.tells("of one file", list(6, 3), list(1, 2), list(5, 6))
	d.slot(5, 4, "b")
	d.tells("the first one is no entry", list(5, 3), list(1, 2), list(5, 6))
	d.slot(5, 3, "bb")
	d.tells("others that are longer", nil, list(1, 2, 3), list(5, 6))
	d.slot(5, 3, "B")
	d.tells("others", nil, list(1, 2, 3), list(5, 6))
	d.inode(3, root(7))
	d.inode(4, file(0))
	d.slot(7, 4, "b")
	d.tells("in another directory", nil, list(1, 2, 3, 4), list(5, 6, 7))
	x := file(0)
	x.Links = 2
	d.inode(2, x)
	d.slot(7, 2, "b")
	d.inode(4, api.Inode{})
	d.tells("of one file in two directories", nil, list(1, 2, 3), list(5, 6, 7))
}

func TestNamesOfAllLengths(t *testing.T) { // P12.4
	for size := 1; size <= 40; size++ {
		d := withSlot(t, api.Sector{})
		d.inode(3, file(0))
		d.slot(5, 3, strings.Repeat("\xff", size))
		d.tells("a name", nil, list(1, 2, 3), list(5, 6))
		d.slot(6, 2, strings.Repeat("\xff", size))
		d.tells("a name twice", list(6, 2), list(1, 3), list(5, 6))
	}
}

func TestDirectoriesThatWereTakenUp(t *testing.T) { // P12.1: a directory has one entry, the first one
	d := withSlot(t, api.Sector{})
	d.inode(3, root(7))
	d.slot(5, 3, "a")
	d.slot(7, 3, "self")
	d.tells("in itself", list(7), list(1, 2, 3), list(5, 6, 7))
	d.slot(6, 3, "b")
	d.image[7] = api.Sector{}
	d.tells("twice in one", list(6, 2), list(1, 3), list(5, 6, 7))
	d.slot(6, 4, "b")
	d.inode(4, root(8))
	d.slot(8, 3, "c")
	d.tells("and in another one", list(8, 2), list(1, 3, 4), list(5, 6, 7, 8))
}

func TestRingsOfDirectories(t *testing.T) { // P12.1
	d := draftOf(t, 24, 6)
	d.inode(1, root(7))
	for i := 2; i <= 5; i++ {
		d.inode(i, root(8+i))
		d.slot(8+i, 2+(i-1)%4, "next")
	}
	// 2 names 3, 3 names 4, 4 names 5, 5 names 2.
	d.tells("that nobody reaches", list(2, 3, 4, 5), list(1), list(7))
	for from := 2; from <= 5; from++ {
		d.slot(7, from, "in")
		last := 2 + (from+1)%4
		d.tells("that is reached", list(8+last), upTo(1, 5), list(7, 10, 11, 12, 13))
	}
	d.slot(13, 1, "next")
	d.slot(7, 2, "in")
	d.tells("through the root", list(13), upTo(1, 5), list(7, 10, 11, 12, 13))
}

func TestDirectoriesWithinDirectories(t *testing.T) { // P12.1, P12.4: as deep as there are inodes
	d := draftOf(t, 2000, 512)
	for i := 1; i <= 512; i++ {
		n := d.give()
		d.inode(i, root(n))
		if i < 512 {
			d.slot(n, i+1, "d")
		}
	}
	d.tells("a chain", nil, upTo(1, 512), upTo(513, 1024))
	d.slot(513+300, 2, "d")
	r, write := hold(t, d.image), append(list(813), upTo(302, 512)...)
	if !slices.Equal(r.Write, write) || !slices.Equal(r.Inodes, upTo(1, 301)) {
		t.Errorf("a chain that is cut: %v", r.Write)
	}
}

func TestDirectoriesByTheOrderInWhichTheyAreTakenUp(t *testing.T) { // P12.1: not the deepest first, nor by their numbers
	d := draftOf(t, 32, 8)
	d.inode(1, root(9, 10))
	d.slot(9, 7, "a")
	d.slot(10, 3, "b")
	d.inode(7, root(11))
	d.slot(11, 6, "x")
	d.inode(3, root(12))
	d.inode(6, root(13))
	d.inode(5, root())
	d.slot(12, 5, "in b")
	d.slot(13, 5, "in x")
	// The root, 7, 3, then 6: the entry in 3 is met ahead of the one in 6.
	d.tells("by levels", list(13), list(1, 3, 5, 6, 7), upTo(9, 13))
	// 7 ahead of 3: its slot has the entry.
	d.slot(11, 5, "in a")
	d.image[13] = api.Sector{}
	d.tells("not by numbers", list(12, 6), list(1, 3, 5, 7), upTo(9, 12))
}

func TestInodesAreTakenUpWhereTheyAreMet(t *testing.T) { // P12.1: what is met first claims first
	d := draftOf(t, 32, 8)
	d.inode(1, root(9, 10))
	d.slot(9, 4, "a")
	d.slot(10, 2, "b")
	d.inode(4, file(128, 20))
	d.inode(2, file(128, 20))
	r := d.tells("of one directory", list(2), list(1, 2, 4), list(9, 10, 20))
	d.inodeIs("of one directory", r, 2, file(128))
	// b is taken up ahead of what stands in the directory a.
	d.inode(4, root(11))
	d.slot(11, 3, "c")
	d.inode(3, file(128, 20))
	r = d.tells("of two", list(3), list(1, 2, 3, 4), list(9, 10, 11, 20))
	d.inodeIs("of two", r, 3, file(128))
	// A directory's slots are claimed when it is taken up, ahead of the file b's block.
	d.inode(2, file(128, 11))
	r = d.tells("a slot and a block", list(2), list(1, 2, 3, 4), list(9, 10, 11, 20))
	d.inodeIs("a slot and a block", r, 2, file(128))
	// The root's own ahead of all.
	d.inode(4, root(9, 11))
	r = d.tells("the root's", list(2, 4), list(1, 2, 3, 4), list(9, 10, 11, 20))
	d.inodeIs("the root's", r, 4, root(0, 11))
}

func TestASlotThatBecomesEmptyTakesUpNothing(t *testing.T) { // P12.1
	d := draftOf(t, 32, 8)
	d.inode(1, root(9, 10))
	d.slot(9, 2, "a")
	d.slot(10, 3, "a")
	d.inode(2, file(128, 20))
	d.inode(3, file(128, 21))
	d.inode(4, file(128, 22))
	r := d.tells("a name twice", list(10, 3, 4), list(1, 2), list(9, 10, 20))
	if r.Want[21] != d.image[21] || r.Want[3] != (api.Sector{}) {
		t.Error("what is not taken up is not claimed")
	}
}

// linked is an image in which so many slots of the root name the file 2, which tells so many Links.
func linked(t *testing.T, entries, links int) (*draft, []int) {
	d := draftOf(t, 400, 4)
	x := root()
	x.Size = 128 * entries
	slots := d.grow(1, x, upTo(0, entries-1)...)
	for k, n := range slots {
		d.slot(n, 2, "n"+strconv.Itoa(k))
	}
	y := file(3)
	y.Links = links
	d.inode(2, y)
	return d, slots
}

func TestAFileWithAHundredEntries(t *testing.T) { // P12.1: and no more
	for _, entries := range list(1, 2, 99, 100, 101, 102, 150) {
		for _, links := range list(0, 1, 2, 99, 100) {
			d, slots := linked(t, entries, links)
			want := min(entries, 100)
			write := slices.Clone(slots[want:])
			if links != want {
				write = append(write, 2)
			}
			x := file(3)
			x.Links = want
			r := d.tells("entries", write, list(1, 2), upTo(5, d.least-1))
			d.inodeIs("entries", r, 2, x)
		}
	}
}

func TestAHundredEntriesInTwoDirectories(t *testing.T) { // P12.1
	d, slots := linked(t, 99, 100)
	more := d.grow(3, api.Inode{Kind: api.KindDir, Links: 1, Size: 256}, 0, 1)
	d.slot(more[0], 2, "a")
	d.slot(more[1], 4, "b")
	d.inode(4, file(0))
	d.slot(slots[50], 3, "d")
	d.slot(slots[51], 2, "another")
	x := file(3)
	x.Links = 99
	r := d.tells("99", list(2), upTo(1, 4), upTo(5, d.least-1))
	d.inodeIs("99", r, 2, x)
	d.slot(more[1], 2, "b")
	d.tells("100", list(4), upTo(1, 3), upTo(5, d.least-1))
	third := d.grow(4, api.Inode{Kind: api.KindDir, Links: 1, Size: 256}, 0, 1)
	d.slot(third[0], 2, "c")
	d.slot(slots[52], 4, "e")
	d.tells("100 in three", nil, upTo(1, 4), upTo(5, d.least-1))
	d.slot(third[1], 2, "f")
	d.tells("101 in three", list(third[1]), upTo(1, 4), upTo(5, d.least-1))
	d.slot(third[0], 4, "c")
	d.tells("a directory in itself counts for nothing", list(third[0]), upTo(1, 4), upTo(5, d.least-1))
}

func TestInodesThatNoSlotNames(t *testing.T) { // P12.1: they become zeros, and claim nothing
	d := draftOf(t, 32, 8)
	d.inode(1, root())
	d.inode(2, file(128, 9))
	d.inode(4, root(10, 10))
	d.slot(10, 6, "x")
	d.inode(6, file(0))
	d.image[8] = api.Sector{77: 3}
	r := d.tells("nobody names them", list(2, 4, 6, 8), list(1), nil)
	for i := 2; i <= 8; i++ {
		d.inodeIs("nobody names them", r, i, api.Inode{})
	}
}

func TestLinksThatAreOthers(t *testing.T) { // P12.1
	for _, links := range list(0, 1, 2, 3, 99, 100) {
		d := draftOf(t, 32, 8)
		d.inode(1, root(9, 10, 11))
		d.slot(9, 2, "a")
		d.slot(10, 2, "b")
		d.slot(11, 3, "c")
		x, y := file(0), root()
		x.Links, y.Links = links, links
		d.inode(2, x)
		d.inode(3, y)
		write := list(2, 3)
		switch links {
		case 1:
			write = list(2)
		case 2:
			write = list(3)
		}
		r := d.tells("links", write, list(1, 2, 3), list(9, 10, 11))
		x.Links, y.Links = 2, 1
		d.inodeIs("links", r, 2, x)
		d.inodeIs("links", r, 3, y)
	}
}

func TestKindAndMadeStay(t *testing.T) { // P12.6
	for _, made := range []int{0, 1, 255, 1 << 32, 1<<40 - 1, 1 << 40} {
		d := small(t, root(5))
		d.slot(5, 2, "a")
		x := file(300, 6, 99, 7)
		x.Made, x.Links = made, 55
		d.inode(2, x)
		r := d.tells("made", list(2), list(1, 2), list(5, 6, 7))
		x.Links, x.Direct[1] = 1, 0
		d.inodeIs("made", r, 2, x)
	}
}

func TestManySlotsOfManyTables(t *testing.T) { // P12.1, P12.4: a directory of 500 entries, and one in which each other name stands already
	d := draftOf(t, 1200, 512)
	x := root()
	x.Size = 128 * 511
	slots := d.grow(1, x, upTo(0, 510)...)
	for k, n := range slots {
		d.slot(n, 2+k, strconv.Itoa(k))
		d.inode(2+k, file(0))
	}
	all := upTo(513, d.least-1)
	d.tells("many", nil, upTo(1, 512), all)
	var write, used []int
	for k, n := range slots {
		d.slot(n, 2+k, strconv.Itoa(k/2))
		if k%2 == 1 {
			write = append(write, n)
		} else {
			used = append(used, 2+k)
		}
	}
	for k := range slots {
		if k%2 == 1 {
			write = append(write, 2+k)
		}
	}
	d.tells("each name twice", write, append(list(1), used...), all)
}
