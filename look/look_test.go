package look_test

import (
	"slices"
	"sync"
	"testing"

	"breakwater/api"
	"breakwater/layout"
	"breakwater/look"
)

func TestTheExamplesThatAreRefused(t *testing.T) { // P12.1
	d := small(t, root())
	d.image = d.image[:7]
	d.refused("7 sectors", 120)
	d.image = make([]api.Sector, 16)
	d.refused("zeros", 120)
	d = draftOf(t, 17, 4)
	d.inode(1, root())
	d.image = d.image[:16]
	d.refused("a super of 17", 120)
	draftOf(t, 16, 4).refused("a super alone", 121)
	small(t, file(0)).refused("the root is a file", 121)
}

func TestTheExamplesOfBlocks(t *testing.T) { // P12.1
	small(t, root()).tells("an empty root", nil, list(1), nil)
	x := root(5)
	x.Links = 7
	d := small(t, x)
	d.slot(5, 2, "a")
	d.inode(2, file(3, 6))
	d.bytes(6, "hello")
	r := d.tells("a tail", list(1, 6), list(1, 2), list(5, 6))
	d.inodeIs("a tail", r, 1, root(5))
	if r.Want[6] != (api.Sector{'h', 'e', 'l'}) {
		t.Errorf("a tail: %q", r.Want[6][:])
	}
	d.inode(3, api.Inode{Kind: api.KindFile})
	d.slot(5, 3, "a")
	r = d.tells("an unnamed one", list(1, 2, 3), list(1, 3), list(5))
	d.inodeIs("an unnamed one", r, 2, api.Inode{})
	d.inodeIs("an unnamed one", r, 3, file(0))
}

func TestTheExamplesOfEntries(t *testing.T) { // P12.1
	x := root(5, 6)
	x.Links = 0
	d := small(t, x)
	d.slot(5, 2, "a")
	d.slot(6, 2, "b")
	d.inode(2, root())
	r := d.tells("two entries", list(6, 1), list(1, 2), list(5, 6))
	d.inodeIs("two entries", r, 1, root(5, 6))
	if r.Want[6] != (api.Sector{}) {
		t.Errorf("two entries: %v", r.Want[6])
	}
	d = small(t, root(5, 5))
	d.slot(5, 9, "a")
	r = d.tells("no inode", list(5, 1), list(1), list(5))
	d.inodeIs("no inode", r, 1, root(5, 0))
}

func TestTheExamplesOfTables(t *testing.T) { // P12.1
	d := small(t, root(5))
	d.slot(5, 2, "a")
	x := file(1664)
	x.Single = 7
	d.inode(2, x)
	d.table(7, map[int]int{0: 99})
	r := d.tells("no table", list(2), list(1, 2), list(5))
	d.inodeIs("no table", r, 2, file(1664))
	if r.Want[7] != d.image[7] {
		t.Errorf("no table: %v", r.Want[7])
	}
	x.Size = 1920
	d.inode(2, x)
	d.table(7, map[int]int{0: 8, 1: 7, 2: 99, 3: 9})
	r = d.tells("a table", list(7), list(1, 2), list(5, 7, 8))
	d.tableIs("a table", r, 7, api.Pointers{8})
}

func TestHowManySectors(t *testing.T) { // P12.1
	none := &draft{T: t}
	none.refused("nil", 120)
	none.image = []api.Sector{}
	none.refused("no sector", 120)
	for _, x := range []api.Super{{Sectors: 8, Inodes: 1}, {Sectors: 8, Inodes: 6}, {Sectors: 9, Inodes: 7}, {Sectors: 514, Inodes: 512}, {Sectors: 4095, Inodes: 1}, {Sectors: 4096, Inodes: 1}, {Sectors: 4096, Inodes: 512}} {
		d := draftOf(t, x.Sectors, x.Inodes)
		ends := slices.Compact(list(x.Inodes+1, x.Sectors-1))
		d.inode(1, root(ends...))
		d.tells("sizes", nil, list(1), ends)
		whole := d.image
		d.image = whole[:len(whole)-1]
		d.refused("one sector fewer", 120)
		d.image = append(slices.Clone(whole), api.Sector{})
		d.refused("one sector more", 120)
		d.image = whole[:1]
		d.refused("the first sector alone", 120)
		d.image = append(slices.Clone(whole), whole...)
		d.refused("twice", 120)
	}
}

func TestFirstSectorsThatAreNone(t *testing.T) { // P12.1: ahead of the root, whatever that is
	for _, x := range []api.Inode{root(), file(0), {}} {
		for at := range 128 {
			d := small(t, x)
			d.image[0][at] ^= 0x10
			d.refused("a byte of the first sector", 120)
		}
		for _, inodes := range []byte{0, 15, 16, 255} {
			d := small(t, x)
			d.image[0][8] = inodes
			d.refused("inodes that may not be", 120)
		}
		d := draftOf(t, 4096, 512)
		d.inode(1, x)
		d.image[0][8], d.image[0][9] = 1, 2
		d.refused("513 inodes", 120)
	}
	for _, sectors := range []int{8, 15, 17, 4096} {
		d := small(t, root())
		d.image[0] = draftOf(t, sectors, 4).image[0]
		d.refused("another number of sectors", 120)
	}
}

func TestRootsThatAreNone(t *testing.T) { // P12.1
	for at, with := range map[int]byte{0: 3, 1: 101, 2: 1, 3: 1, 4: 1, 7: 1, 14: 1, 15: 255, 72: 1, 127: 1} {
		d := small(t, root())
		d.image[1][at] = with
		d.refused("a spoilt root", 121)
	}
	d := small(t, root())
	d.image[1][0] = 0
	d.refused("the root is free, and has a link", 121)
	d.inode(1, api.Inode{})
	d.refused("the root is free", 121)
	d.inode(1, file(128, 5))
	d.refused("the root is a file", 121)
	d.inode(2, root())
	d.refused("another one is a directory", 121)
	for i := range d.image[1] {
		d.image[1][i] = 255
	}
	d.refused("the root is ones", 121)
	for _, links := range []int{0, 1, 2, 100} {
		x := root()
		x.Links, x.Made = links, 1<<40
		d := small(t, x)
		write := list(1)
		if links == 1 {
			write = nil
		}
		r := d.tells("the root's links", write, list(1), nil)
		x.Links = 1
		d.inodeIs("the root's links", r, 1, x)
	}
}

// mixed is an image of which sectors of all kinds are to be written.
func mixed(t *testing.T) *draft {
	d := draftOf(t, 40, 8)
	d.inode(1, root(20, 21, 12, 13))
	d.slot(20, 6, "d")
	d.slot(21, 3, "f")
	d.slot(13, 99, "none")
	x := root(30)
	x.Links, x.Size, x.Single = 9, 128*14, 11
	d.inode(6, x)
	d.table(11, map[int]int{0: 99, 1: 31})
	d.bytes(30, "no slot")
	y := file(129, 32, 10)
	y.Links = 4
	d.inode(3, y)
	d.bytes(10, "tail")
	d.slot(12, 4, "g")
	z := file(1700)
	z.Single = 33
	d.inode(4, z)
	d.table(33, map[int]int{0: 9, 1: 34, 2: 35})
	d.bytes(34, "some bytes that are more than thirty-six of them in all")
	d.bytes(7, "no inode")
	d.inode(8, file(3))
	return d
}

func TestTheOrderOfWrite(t *testing.T) { // P12.1: tables and slots, then inodes, then bytes of files, rising each
	d := mixed(t)
	// 34 is block 13, the last one, of which 36 bytes are the file's; 10 is a file's and stands below all tables.
	r := d.tells("mixed", list(11, 13, 30, 33, 3, 6, 7, 8, 10, 34), list(1, 3, 4, 6), list(9, 10, 11, 12, 13, 20, 21, 30, 31, 32, 33, 34))
	if s := string(r.Want[34][:40]); s != "some bytes that are more than thirty\x00\x00\x00\x00" || r.Want[10] != (api.Sector{'t'}) {
		t.Errorf("%q, %q", s, r.Want[10][:])
	}
	d.tableIs("mixed", r, 33, api.Pointers{9, 34})
	d.tableIs("mixed", r, 11, api.Pointers{1: 31})
}

func TestTheImageIsNotKept(t *testing.T) { // P12.2, R4
	d := mixed(t)
	r, e := look.Look(d.image)
	before := api.Report{Want: slices.Clone(r.Want), Write: slices.Clone(r.Write), Inodes: slices.Clone(r.Inodes), Blocks: slices.Clone(r.Blocks)}
	for n := range d.image {
		d.image[n] = api.Sector{0: 7, 127: 9}
	}
	if e != api.OK || !same(r, before) {
		t.Error("the report is another when the image is written over")
	}
}

// scribble writes over all that a report has, its spare room too.
func scribble(r api.Report) {
	for _, l := range [][]int{r.Write, r.Inodes, r.Blocks} {
		l = l[:cap(l)]
		for i := range l {
			l[i] = -1 - i
		}
	}
	want := r.Want[:cap(r.Want)]
	for n := range want {
		want[n] = api.Sector{5: 55}
	}
}

func TestWhatIsToldIsNewMemory(t *testing.T) { // P12.2, R4
	for _, d := range []*draft{mixed(t), small(t, root()), small(t, root(5))} {
		room := append(slices.Clone(d.image), make([]api.Sector, 9)...) // an image with room behind it, which is the caller's
		image := room[:len(d.image)]
		first, _ := look.Look(image)
		second, _ := look.Look(image)
		kept := api.Report{Want: slices.Clone(second.Want), Write: slices.Clone(second.Write), Inodes: slices.Clone(second.Inodes), Blocks: slices.Clone(second.Blocks)}
		scribble(first)
		if !slices.Equal(image, d.image) || slices.ContainsFunc(room[len(image):], func(s api.Sector) bool { return s != api.Sector{} }) {
			t.Error("the image is another when the report is written over")
		}
		if third, _ := look.Look(image); !same(second, kept) || !same(third, kept) {
			t.Error("another report is another when one is written over")
		}
	}
}

func TestListsOfOneAnswerShareNothing(t *testing.T) { // R4
	lists := func(r *api.Report) []*[]int { return []*[]int{&r.Write, &r.Inodes, &r.Blocks} }
	for at := range 3 {
		r, _ := look.Look(mixed(t).image)
		want, _ := look.Look(mixed(t).image)
		l := *lists(&r)[at]
		for i := range l[:cap(l)] {
			l[:cap(l)][i] = -7
		}
		*lists(&r)[at] = *lists(&want)[at]
		if !same(r, want) {
			t.Errorf("list %d shares memory", at)
		}
	}
}

func TestTwoSideBySide(t *testing.T) { // R5: neither what another look does nor in which order is seen
	images := [][]api.Sector{mixed(t).image, small(t, root(5)).image, anyImage(7), anyImage(8)}
	var wait sync.WaitGroup
	got := make([]api.Report, 8*len(images))
	for i := range got {
		wait.Go(func() { got[i], _ = look.Look(images[i%len(images)]) })
	}
	wait.Wait()
	for i, r := range got {
		if want, _ := plainLook(images[i%len(images)]); !same(r, want) {
			t.Errorf("look %d is another beside others", i)
		}
	}
}

func TestOneImageOftenIsTheSame(t *testing.T) { // R5: no order of a map's keys is seen
	d := full(t, 4096)
	first, _ := look.Look(d.image)
	for range 5 {
		if r, _ := look.Look(d.image); !same(r, first) {
			t.Fatal("another report of the same image")
		}
	}
	if !slices.IsSorted(first.Blocks) || !slices.IsSorted(first.Inodes) || len(first.Blocks) != 1103 {
		t.Error(len(first.Blocks))
	}
}

func TestASuperInTheData(t *testing.T) { // a first sector that is elsewhere is bytes as others are
	d := small(t, root(5))
	d.slot(5, 2, "a")
	d.inode(2, file(128, 6))
	d.image[6] = d.image[0]
	d.tells("a super as a block", nil, list(1, 2), list(5, 6))
	if s, _ := layout.ReadSuper(d.image[6]); s.Sectors != 16 {
		t.Error(s)
	}
}
