package dir_test

import (
	"math"
	"slices"
	"strconv"
	"strings"
	"testing"

	"breakwater/api"
	"breakwater/dir"
)

func TestNew(t *testing.T) { // P11.1
	r := begin(t)
	if x, e := dir.New(nil, r.f); x != nil || e != api.ErrArg {
		t.Errorf("New without a cache: %v, %d", x, e)
	}
	if x, e := dir.New(r.c, nil); x != nil || e != api.ErrArg {
		t.Errorf("New without files: %v, %d", x, e)
	}
	if x, e := dir.New(nil, nil); x != nil || e != api.ErrArg {
		t.Errorf("New of nothing: %v, %d", x, e)
	}
	r.unchanged("New", func() { dir.New(r.c, r.f) })
}

func TestTwoOnTheSameFilesTellTheSame(t *testing.T) { // P11.1: nothing is kept beside the cache and the files
	r := begin(t)
	other, e := dir.New(r.c, r.f)
	r.is("New", e, api.OK)
	r.set(1, 3, of(2, "a"))
	if k, i, e := other.Find(1, "a"); k != 3 || i != 2 || e != api.OK {
		t.Errorf("Find: %d, %d, %d", k, i, e)
	}
	r.is("Set", other.Set(1, 3, of(2, "b")), api.OK)
	r.missing(1, "a")
	r.found(1, "b", 3, 2)
}

func TestTheExamples(t *testing.T) { // P11.2 to P11.7: the chapter's table, row by row
	r := begin(t)
	r.slots(1)
	r.missing(1, "a")
	r.place(1, 0, 1)
	r.visible(1, 0)
	r.sector(1, 0, 0)

	r.refused(2, 0, of(2, "a"), 0, api.ErrDirKind, 0, api.ErrDirKind, 0, 0)
	r.refused(3, 0, none, 0, api.ErrFileInode, 0, 0, 0, 0)
	r.refused(9, 0, none, api.ErrFileInode, 0, 0, 0, 0, 0)

	r.set(1, 0, of(2, "a"))
	r.sector(1, 0, 5)
	r.visible(1, 0, 5, 1)
	r.place(1, 1, 1)

	r.found(1, "a", 0, 2)
	r.missing(1, "")
	r.slots(1, of(2, "a"))

	r.set(1, 2, of(2, "b"))
	r.slots(1, of(2, "a"), none, of(2, "b"))
	r.place(1, 1, 1)

	r.refused(1, 0, of(2, "/"), 0, 0, 0, api.ErrLayoutSlot, 0, 0)
	r.refused(1, 1068, of(2, "c"), 0, 0, 0, api.ErrBlocksIndex, api.ErrBlocksIndex, api.ErrBlocksIndex)
	r.refused(1, -1, none, 0, 0, 0, api.ErrBlocksIndex, api.ErrBlocksIndex, api.ErrBlocksIndex)

	r.sync()
	r.set(1, 0, none)
	r.visible(1, 0, 5)
	r.place(1, 0, 0)

	r.set(1, 1, of(2, "a"))
	r.edges(5, 7, 7, 1)
	r.visible(1, 1, 7, 1)

	r.set(1, 12, of(2, "m"))
	r.visible(1, 12, 8, 9, 1)
}

// noInodes are numbers that no inode in use has, of 4.
func noInodes() []int {
	return []int{0, 3, 4, 5, -1, -2, 39, 40, 512, 513, 1<<32 + 1, -1<<32 + 1, minInt, maxInt}
}

func TestInodesThatAreNotInUse(t *testing.T) { // P11.2: ahead of a slot that is none, and of what is no slot
	r := begin(t)
	for _, d := range noInodes() {
		r.allRefused(d, 0, of(2, "a"), api.ErrFileInode)
		r.allRefused(d, -1, of(2, "/"), api.ErrFileInode)
		r.allRefused(d, 1068, of(513, "a"), api.ErrFileInode)
	}
}

func TestInodesThatAreNoDirectories(t *testing.T) { // P11.2
	r := begin(t)
	r.allRefused(2, 0, of(2, "a"), api.ErrDirKind)
	r.allRefused(2, -1, of(2, "/"), api.ErrDirKind)
	r.allRefused(2, 1068, of(0, "a"), api.ErrDirKind)
	i, e := r.s.TakeInode()
	r.is("TakeInode", e, api.OK)
	r.allRefused(i, -1, of(2, "/"), api.ErrDirKind) // in use, but never put
	r.is("Put", r.f.Put(i, api.Inode{Kind: api.KindDir, Links: 1}), api.OK)
	r.slots(i)
	r.is("Free", r.f.Free(i), api.OK)
	r.allRefused(i, -1, of(2, "/"), api.ErrFileInode)
}

func TestASectorThatIsNoInode(t *testing.T) { // P11.2: the error of file.Inode goes up
	r := begin(t)
	write(t, r.d, 1, noSlot())
	r.allRefused(1, -1, of(2, "/"), api.ErrLayoutInode)
}

func TestASlotThatIsNone(t *testing.T) { // P11.2: wherever it stands, Find, Slots and Place are refused, and nothing else
	for _, k := range []int{0, 1, 11, 12, 43, 44, 76} {
		r := rigOf(t, 140, 4)
		for i := range 77 {
			r.set(1, i, of(2, "n"+strconv.Itoa(i)))
		}
		r.set(1, 0, of(3, "a"))
		r.sync()
		n, _ := r.x.Sector(1, k)
		write(t, r.d, n, noSlot())
		r.refused(1, k, none, api.ErrLayoutSlot, api.ErrLayoutSlot, api.ErrLayoutSlot, 0, 0, 0)
		r.sector(1, k, n)
		r.visible(1, k)
		r.set(1, (k+1)%77, of(2, "x"))
		r.set(1, k, of(2, "y"))
		r.found(1, "y", k, 2)
		r.visible(1, k, n)
	}
}

func TestASlotThatIsNoneInTheCacheAlone(t *testing.T) { // P11.2: slots are read as the cache reads them
	r := with(t, 40, of(2, "a"), of(2, "b"))
	r.is("cache.Put", r.c.Put(6, noSlot()), api.OK)
	r.refused(1, 0, none, api.ErrLayoutSlot, api.ErrLayoutSlot, api.ErrLayoutSlot, 0, 0, 0)
	r.is("cache.Drop", r.c.Drop(6), api.OK)
	r.slots(1, of(2, "a"), of(2, "b"))
	write(t, r.d, 6, noSlot())
	r.is("cache.Put", r.c.Put(6, slotSector(t, of(3, "c"))), api.OK)
	r.slots(1, of(2, "a"), of(3, "c"))
}

func TestWhatLiesBehindTheSizeIsNoSlot(t *testing.T) { // P11.2, P11.3: neither told nor read, whatever it is
	d := begin(t).d
	write(t, d, 1, inodeSector(t, api.Inode{Kind: api.KindDir, Links: 1, Size: 256, Direct: [12]int{5, 0, 6}, Single: 4000, Double: 4001}))
	write(t, d, 5, slotSector(t, of(2, "a")))
	write(t, d, 6, noSlot())
	r := rigOn(t, d, 4, []int{1, 2}, []int{5, 6})
	r.slots(1, of(2, "a"), none)
	r.found(1, "a", 0, 2)
	r.place(1, 1, 1)
	r.set(1, 1, of(3, "b"))
	r.slots(1, of(2, "a"), of(3, "b"))
	r.place(1, 2, 0)
	r.sector(1, 2, 6)
	r.set(1, 2, of(3, "c"))
	r.slots(1, of(2, "a"), of(3, "b"), of(3, "c"))
}

func TestNoTableIsReadThatLeadsToNoSlot(t *testing.T) { // P11.2, P11.3: a row of slots ends where a row of pointers does
	for _, c := range []struct{ slots, lost int }{{12, 12}, {44, 44}, {76, 76}} {
		r := rigOf(t, 140, 4)
		for k := range c.slots {
			r.set(1, k, of(2, "n"+strconv.Itoa(k)))
		}
		r.sync()
		x, e := r.f.Inode(1)
		r.is("Inode", e, api.OK)
		switch c.lost {
		case 12:
			x.Single = 4000
		case 44:
			x.Double = 4000
		case 76:
			s, _ := r.d.Read(x.Double)
			s[4], s[5] = 0xa0, 0x0f
			write(t, r.d, x.Double, s)
		}
		write(t, r.d, 1, inodeSector(t, x))
		if list, e := r.x.Slots(1); len(list) != c.slots || e != api.OK {
			t.Errorf("Slots of %d: %d, %d", c.slots, len(list), e)
		}
		r.missing(1, "a")
		r.set(1, 0, of(2, "a"))
		if _, _, e := r.x.Place(1); e != api.ErrCachePlace {
			t.Errorf("Place behind %d, where the table is no sector: %d", c.slots, e)
		}
		x.Size = (c.slots + 1) * 128
		r.is("Put", r.f.Put(1, x), api.OK)
		r.refused(1, c.slots, of(2, "b"), api.ErrCachePlace, api.ErrCachePlace, api.ErrCachePlace, api.ErrCachePlace, api.ErrCachePlace, api.ErrCachePlace)
		r.refused(1, 0, of(2, "b"), 0, 0, 0, api.ErrCachePlace, 0, 0) // whether another slot has the name can not be told
		r.refused(1, 0, of(2, ".."), 0, 0, 0, api.ErrLayoutSlot, 0, 0)
		r.set(1, 0, none) // of an empty one nobody asks
	}
}

func TestSlotsWhoseSectorsAreNone(t *testing.T) { // R1: the cache's error goes up
	r := begin(t)
	write(t, r.d, 1, inodeSector(t, api.Inode{Kind: api.KindDir, Links: 1, Size: 256, Direct: [12]int{5, math.MaxUint32}}))
	r.refused(1, 1, of(2, "a"), api.ErrCachePlace, api.ErrCachePlace, api.ErrCachePlace, api.ErrCachePlace, 0, 0)
	r.sector(1, 1, math.MaxUint32)
	r.visible(1, 1)
	r.set(1, 0, of(2, "a"))
	r.visible(1, 0, 5)
}

func TestDirectoriesWithoutEntries(t *testing.T) { // P11.3, P11.4: without slots, with empty ones, with holes
	r := begin(t)
	r.set(1, 0, none)
	r.slots(1, none)
	r.place(1, 0, 0)
	r.missing(1, "", "a")
	r = begin(t)
	r.set(1, 2, none)
	r.slots(1, none, none, none)
	r.place(1, 0, 1)
	r.missing(1, "", "a")
	r.set(1, 0, none)
	r.set(1, 1, none)
	r.slots(1, none, none, none)
	r.place(1, 0, 0)
	r.sync()
	r.slots(1, none, none, none)
}

func TestEntriesAtTheEdges(t *testing.T) { // P11.3, P11.5, P11.6: slots on each kind of way
	for _, k := range []int{0, 11, 12, 43, 44, 75, 76, 1067} {
		r := begin(t)
		r.set(1, k, of(4, "a"))
		r.found(1, "a", k, 4)
		want := make([]api.Slot, k+1)
		want[k] = of(4, "a")
		r.slots(1, want...)
		r.sector(1, k, 5)
		if x, e := r.f.Inode(1); x.Size != (k+1)*128 || e != api.OK {
			t.Errorf("the size behind slot %d: %d, %d", k, x.Size, e)
		}
		r.sync()
		r.slots(1, want...)
		if k > 0 {
			r.sector(1, k-1, 0)
			r.place(1, 0, 1)
		}
		if k < 1067 {
			r.sector(1, k+1, 0)
		}
		r.set(1, 0, of(3, "b"))
		if x, e := r.f.Inode(1); x.Size != (k+1)*128 || e != api.OK {
			t.Errorf("the size behind slot %d and slot 0: %d, %d", k, x.Size, e)
		}
	}
}

// noSlots are numbers that no slot has.
func noSlots() []int {
	return []int{-1, -2, -1068, 1068, 1069, 1 << 31, 1 << 32, -1 << 32, 1<<57 - 1, 1 << 57, minInt, minInt + 1, maxInt, maxInt - 1}
}

func TestSlotsThatNoDirectoryHas(t *testing.T) { // P11.5 to P11.7: ahead of what is no slot
	r := with(t, 40, of(2, "a"))
	for _, k := range noSlots() {
		r.refused(1, k, of(2, "a"), 0, 0, 0, api.ErrBlocksIndex, api.ErrBlocksIndex, api.ErrBlocksIndex)
		r.refused(1, k, of(2, "/"), 0, 0, 0, api.ErrBlocksIndex, api.ErrBlocksIndex, api.ErrBlocksIndex)
		r.unchanged("Set", func() { r.is("Set behind no sector", r.x.Set(1, k, none, 40), api.ErrBlocksIndex) })
	}
}

// noNames are names that may not be.
func noNames() []string {
	return []string{"", ".", "..", "/", "a/", "/a", "a/b", "\x00", "a\x00", strings.Repeat("n", 41), strings.Repeat("n", 256+5), strings.Repeat("n", 1<<16)}
}

func TestNamesThatMayNotBe(t *testing.T) { // P11.3, P11.5
	r := with(t, 40, of(2, "a"), none)
	for _, name := range noNames() {
		r.missing(1, name)
		r.refused(1, 0, of(2, name), 0, 0, 0, api.ErrLayoutSlot, 0, 0)
		r.unchanged("Set", func() { r.is("Set behind no sector", r.x.Set(1, 0, of(2, name), 40), api.ErrLayoutSlot) })
	}
	for _, s := range []api.Slot{of(0, "a"), of(-1, "a"), of(513, "a"), of(minInt, "a"), of(maxInt, "a"), of(1<<32, "a"), of(1<<32+1, "a"), of(-1, "")} {
		r.refused(1, 0, s, 0, 0, 0, api.ErrLayoutSlot, 0, 0)
	}
	r.slots(1, of(2, "a"), none)
}

func TestNamesAtTheEdges(t *testing.T) { // P11.3: byte by byte, whatever the bytes are
	r := rigOf(t, 64, 4)
	long := strings.Repeat("n", 40)
	names := []string{long, long[1:], long[2:] + "m", "...", ".a", "a", "A", "a ", "\xff", "\xff\xfe", "ü", "u\u0308", "\x01"}
	for k, name := range names {
		r.set(1, k, of(1+k, name))
	}
	for k, name := range names {
		r.found(1, name, k, 1+k)
	}
	r.missing(1, long[3:], long+"n", "b", "aa", " a", "", "\xfe", "u", "n")
	r.set(1, 0, of(512, long))
	r.found(1, long, 0, 512)
}

func TestTheLeastSlotOfTwoWithOneName(t *testing.T) { // P11.3
	r := with(t, 40, of(2, "b"), of(3, "a"), of(4, "a"), of(1, "a"))
	r.found(1, "a", 1, 3)
	r.set(1, 1, none)
	r.found(1, "a", 2, 4)
	r.set(1, 2, of(4, "c"))
	r.found(1, "a", 3, 1)
	r.set(1, 3, none)
	r.missing(1, "a")
}

func TestANameThatAnEmptySlotHad(t *testing.T) { // P11.3: also where it stands on the disk still
	r := with(t, 40, of(2, "a"), of(2, "b"))
	r.set(1, 0, none)
	r.missing(1, "a", "")
	r.slots(1, none, of(2, "b"))
	r.sync()
	r.missing(1, "a", "")
	r.set(1, 1, of(3, "c"))
	r.missing(1, "b")
	r.found(1, "c", 1, 3)
}

func TestPlaces(t *testing.T) { // P11.4: at the end, at an empty slot, at a hole; none, one, two and three sectors
	r := rigOf(t, 140, 4)
	r.set(1, 3, of(2, "z"))
	for _, k := range []int{0, 1, 2} { // holes
		r.place(1, k, 1)
		r.set(1, k, of(2, "n"+strconv.Itoa(k)))
	}
	for k := 4; k < 80; k++ { // the end
		need := 1
		switch k {
		case 12, 76:
			need = 2
		case 44:
			need = 3
		}
		r.place(1, k, need)
		before := r.f.Room().Blocks
		r.set(1, k, of(2, "n"+strconv.Itoa(k)))
		if after := r.f.Room().Blocks; before-after != need {
			t.Errorf("slot %d has taken %d, not %d", k, before-after, need)
		}
	}
	for _, k := range []int{79, 44, 12, 5} { // empty ones, the least of them
		r.set(1, k, none)
		r.place(1, k, 0)
	}
	for _, k := range []int{5, 12, 44, 79} {
		r.place(1, k, 0)
		r.set(1, k, of(2, "m"+strconv.Itoa(k)))
	}
	r.place(1, 80, 1)
}

func TestPlacesAtHolesBehindTables(t *testing.T) { // P11.4: how many sectors a hole needs hangs on what is on its way
	full := func(r *rig, from, to int) {
		for k := from; k < to; k++ {
			r.set(1, k, of(2, "n"+strconv.Itoa(k)))
		}
	}
	r := rigOf(t, 200, 4)
	r.set(1, 1067, of(2, "z"))
	full(r, 0, 12)
	r.place(1, 12, 2) // its table, and it
	full(r, 12, 44)
	r.place(1, 44, 2) // the double table is there
	full(r, 44, 45)
	r.place(1, 45, 1)
	full(r, 45, 76)
	r.place(1, 76, 2)
	r.sync()
	r.place(1, 76, 2)
	r = rigOf(t, 200, 4)
	r.set(1, 43, of(2, "z"))
	full(r, 0, 12)
	r.place(1, 12, 1)
}

func TestAFullDirectory(t *testing.T) { // P11.3, P11.4: all 1068 slots
	r := rigOf(t, 1200, 4)
	for k := range 1068 {
		r.set(1, k, of(2, "n"+strconv.Itoa(k)))
		if k%97 == 96 {
			r.sync()
		}
	}
	r.refused(1, 1068, none, api.ErrDirNone, 0, api.ErrDirFull, api.ErrBlocksIndex, api.ErrBlocksIndex, api.ErrBlocksIndex)
	list, e := r.x.Slots(1)
	r.is("Slots", e, api.OK)
	for k, s := range list {
		if s != of(2, "n"+strconv.Itoa(k)) {
			t.Errorf("slot %d: %+v", k, s)
		}
	}
	if len(list) != 1068 {
		t.Errorf("%d slots", len(list))
	}
	r.found(1, "n0", 0, 2)
	r.found(1, "n1067", 1067, 2)
	r.set(1, 1067, of(3, "x"))
	r.missing(1, "n1067")
	if _, _, e := r.x.Place(1); e != api.ErrDirFull {
		t.Errorf("Place: %d", e)
	}
	r.set(1, 1067, none)
	r.place(1, 1067, 0)
	r.set(1, 700, none)
	r.place(1, 700, 0)
	write(t, r.d, 5, noSlot())
	r.refused(1, 0, none, api.ErrLayoutSlot, api.ErrLayoutSlot, api.ErrLayoutSlot, 0, 0, 0)
}

func TestNoSlotIsToldAheadOfAFullDirectory(t *testing.T) { // P11.2, P11.4
	r := rigOf(t, 1200, 4)
	for k := range 1068 {
		r.set(1, k, of(2, "n"+strconv.Itoa(k)))
	}
	r.sync()
	n, _ := r.x.Sector(1, 1067)
	write(t, r.d, n, noSlot())
	r.refused(1, 0, none, api.ErrLayoutSlot, api.ErrLayoutSlot, api.ErrLayoutSlot, 0, 0, 0)
}

func TestQuestionsChangeNothing(t *testing.T) { // P11.3, P11.4, P11.6, P11.7
	r := rigOf(t, 140, 4)
	r.set(1, 0, of(2, "a"))
	r.set(1, 50, of(2, "b"))
	r.flush(5)
	r.unchanged("the questions", func() {
		r.x.Find(1, "a")
		r.x.Slots(1)
		r.x.Place(1)
		for k := range 100 {
			r.x.Sector(1, k)
			r.x.Visible(1, k)
		}
	})
}

func TestListsThatComeOutAreNew(t *testing.T) { // R4
	r := begin(t)
	r.set(1, 0, of(2, "a"))
	r.set(1, 45, of(3, "b"))
	first, _ := r.x.Slots(1)
	want := slices.Clone(first)
	wipe := first[:cap(first)]
	for i := range wipe {
		wipe[i] = of(9, "x")
	}
	r.slots(1, want...)
	seen, _ := r.x.Visible(1, 45)
	before := slices.Clone(seen)
	all := seen[:cap(seen)]
	for i := range all {
		all[i] = 33
	}
	r.visible(1, 45, before...)
	r.slots(1, want...)
	r.dirty(1, 5, 6, 7, 8)
}

func TestTwoSideBySide(t *testing.T) { // R5: in turns, they do not meet
	a, b := begin(t), begin(t)
	a.set(1, 0, of(2, "a"))
	b.set(1, 12, of(3, "b"))
	a.set(1, 1, of(4, "c"))
	b.sync()
	a.visible(1, 0, 5, 1)
	b.visible(1, 12)
	a.slots(1, of(2, "a"), of(4, "c"))
	b.missing(1, "a", "c")
	b.found(1, "b", 12, 3)
	b.set(1, 12, none)
	a.missing(1, "b")
	a.dirty(1, 5, 6)
	b.dirty(5)
}

func TestTwoDirectories(t *testing.T) { // P11.3, P11.5: each has its own slots
	r := begin(t)
	r.is("TakeInode", second(r), api.OK)
	r.set(1, 0, of(2, "a"))
	r.set(3, 0, of(4, "a"))
	r.set(3, 1, of(2, "b"))
	r.slots(1, of(2, "a"))
	r.slots(3, of(4, "a"), of(2, "b"))
	r.found(1, "a", 0, 2)
	r.found(3, "a", 0, 4)
	r.missing(1, "b")
	r.visible(3, 0, 6, 3)
	r.visible(1, 0, 5, 1)
}

// second lets inode 3 be a directory.
func second(r *rig) api.Errno {
	i, e := r.s.TakeInode()
	if e != api.OK || i != 3 {
		return e
	}
	return r.f.Put(i, api.Inode{Kind: api.KindDir, Links: 1})
}
