package dir_test

import (
	"slices"
	"strconv"
	"testing"

	"breakwater/api"
)

func TestSetOfASlotThatIsNotThere(t *testing.T) { // P11.5: its block is laid, empty or not, and the size goes behind it
	for _, s := range []api.Slot{none, of(512, "a")} {
		r := begin(t)
		r.set(1, 2, s)
		r.sector(1, 2, 5)
		r.dirty(1, 5)
		r.edges(5, 1)
		if x, e := r.f.Inode(1); x != (api.Inode{Kind: api.KindDir, Links: 1, Size: 384, Direct: [12]int{2: 5}}) || e != api.OK {
			t.Errorf("the inode: %+v, %d", x, e)
		}
		if got, e := r.c.Read(5); got != slotSector(t, s) || e != api.OK {
			t.Errorf("the slot's sector: %v, %d", got, e)
		}
	}
}

func TestSetOfOneOverAnother(t *testing.T) { // P11.5: nothing but its sector is put
	r := with(t, 40, of(2, "a"), of(3, "b"))
	room := r.f.Room()
	for _, s := range []api.Slot{of(4, "c"), none, of(4, "a"), of(3, "a")} {
		r.set(1, 0, s)
		r.slots(1, s, of(3, "b"))
		r.dirty(5)
		r.edges()
	}
	if r.f.Room() != room {
		t.Errorf("Room: %+v, was %+v", r.f.Room(), room)
	}
}

func TestTheSizeNeverShrinks(t *testing.T) { // P11.5
	r := begin(t)
	r.set(1, 5, of(2, "a"))
	r.set(1, 1, of(2, "b"))
	r.set(1, 5, none)
	if x, e := r.f.Inode(1); x.Size != 768 || e != api.OK {
		t.Errorf("the size: %d, %d", x.Size, e)
	}
}

func TestSetBehindSectors(t *testing.T) { // P11.5: behind those that are dirty, each once
	r := with(t, 40, of(2, "a"), of(3, "b"))
	for _, n := range []int{2, 3, 30} {
		r.is("cache.Put", r.c.Put(n, api.Sector{1}), api.OK)
	}
	r.set(1, 1, none, 30, 3, 30, 4, 6, 0, 39, 3)
	r.edges(3, 6, 30, 6)
	r.set(1, 2, of(3, "c"), 2, 6)
	r.edges(2, 7, 3, 6, 6, 7, 7, 1, 30, 6)
	r.set(1, 0, of(2, "a"))
	r.edges(2, 7, 3, 6, 6, 7, 7, 1, 30, 6)
}

func TestSetBehindWhatIsNoSector(t *testing.T) { // P11.5: Lay's error, behind a slot that is none
	r := with(t, 40, of(2, "a"))
	r.set(1, 0, none)
	for _, n := range []int{40, -1, 4096, 1 << 32, minInt, maxInt} {
		for _, k := range []int{0, 1, 44} {
			r.unchanged("Set", func() {
				r.is("Set", r.x.Set(1, k, of(2, "a"), n), api.ErrCachePlace)
				r.is("Set", r.x.Set(1, k, none, 5, n, 5), api.ErrCachePlace)
				r.is("Set", r.x.Set(1, k, of(2, "/"), n), api.ErrLayoutSlot)
				r.is("Set", r.x.Set(1, 1068, of(2, "a"), n), api.ErrBlocksIndex)
				r.is("Set", r.x.Set(2, k, of(2, "a"), n), api.ErrDirKind)
			})
		}
	}
}

func TestANameThatStandsInAnotherSlot(t *testing.T) { // P11.5: one that is dirty
	for _, over := range []api.Slot{none, of(2, "x"), of(3, "x")} {
		r := with(t, 40, of(2, "a"), of(3, "b"))
		r.set(1, 0, over)
		r.set(1, 1, of(2, "a"))
		r.edges(5, 6)
		r.set(1, 2, of(4, "a")) // from another slot, too, and with another inode
		r.edges(5, 6, 5, 7, 7, 1)
		r.flush(5)
		r.set(1, 3, of(4, "a")) // no more: it has landed
		r.edges(7, 1, 8, 1)
	}
}

func TestANameThatStandsInASlotThatIsNotDirty(t *testing.T) { // P11.5: nothing need land ahead
	r := with(t, 40, of(2, "a"), of(3, "b"))
	r.set(1, 1, of(2, "a"))
	r.edges()
	r.set(1, 2, of(2, "a"))
	r.edges(7, 1)
}

func TestANameThatStandsInTheSlotItself(t *testing.T) { // P11.5: it is no other
	r := with(t, 40, of(2, "a"))
	r.set(1, 0, none)
	r.set(1, 0, of(2, "a"))
	r.set(1, 0, of(3, "a"))
	r.edges()
	r.dirty(5)
}

func TestANameThatStandsInTwoSlots(t *testing.T) { // P11.5: behind both, by whatever way they are had
	r := rigOf(t, 140, 4)
	for _, k := range []int{0, 3, 12, 44, 76} {
		r.set(1, k, of(2, "a"))
	}
	r.set(1, 5, of(2, "b"))
	r.sync()
	var want []int
	for _, k := range []int{76, 0, 44, 12} {
		n, _ := r.x.Sector(1, k)
		r.set(1, k, none)
		want = append(want, n)
	}
	slices.Sort(want)
	n, _ := r.x.Sector(1, 5)
	r.set(1, 5, of(3, "a"))
	var got []int
	for _, e := range r.c.Edges() {
		if e.Post != n {
			t.Errorf("edge %v", e)
		}
		got = append(got, e.Pre)
	}
	if !slices.Equal(got, want) {
		t.Errorf("ahead of it: %v, want %v", got, want)
	}
}

func TestWhatHoldsNoName(t *testing.T) { // P11.5: dirty slots behind which nothing lands
	r := with(t, 40, of(2, "a"), of(2, "b"), none, of(2, "c"))
	write(t, r.d, 8, noSlot())
	r.set(1, 0, of(2, "n")) // another name stands there, though this one was put
	r.set(1, 1, of(2, "N"))
	r.set(1, 2, of(2, "m")) // an empty slot stands there
	r.set(1, 3, of(2, "k")) // what is no slot stands there
	r.set(1, 4, of(2, "j")) // zeros stand there
	r.edges(9, 1)
	r.set(1, 4, of(2, "n"))
	r.edges(9, 1)
	for k := range 4 {
		r.set(1, k, none)
	}
	r.set(1, 4, of(2, "n"))
	r.set(1, 4, of(2, "ab"))
	r.edges(9, 1)
}

func TestAnEmptySlotLandsBehindNoName(t *testing.T) { // P11.5: also where other empty slots are dirty
	r := with(t, 40, none, of(2, "a"), none)
	r.set(1, 0, of(2, "b"))
	r.set(1, 2, of(2, "c"))
	r.set(1, 1, none)
	r.edges()
	r.set(1, 1, none, 5)
	r.edges(5, 6)
}

func TestTheNameOfAnotherDirectory(t *testing.T) { // P11.5: only slots of d are looked at
	r := begin(t)
	r.is("second", second(r), api.OK)
	r.set(1, 0, of(2, "a"))
	r.set(3, 0, of(2, "b"))
	r.sync()
	r.set(1, 0, none)
	r.set(3, 0, of(2, "a"))
	r.set(3, 1, of(2, "a"))
	r.edges(7, 3)
}

func TestTheNameOfABlockBehindTheSize(t *testing.T) { // P11.5: it is no slot
	d := begin(t).d
	write(t, d, 1, inodeSector(t, api.Inode{Kind: api.KindDir, Links: 1, Size: 128, Direct: [12]int{5, 6}}))
	write(t, d, 6, slotSector(t, of(2, "a")))
	r := rigOn(t, d, 4, []int{1, 2}, []int{5, 6})
	r.is("cache.Put", r.c.Put(6, api.Sector{}), api.OK)
	r.set(1, 0, of(2, "a"))
	r.edges()
	r.set(1, 1, of(2, "b"))
	r.set(1, 0, of(2, "a"))
	r.edges(6, 5)
}

func TestAHoleHasNoSector(t *testing.T) { // P11.5, P11.7: sector 0 is none of theirs, even if it is dirty and has the name
	r := begin(t)
	write(t, r.d, 0, slotSector(t, of(2, "a")))
	r.is("cache.Put", r.c.Put(0, api.Sector{}), api.OK)
	r.set(1, 2, of(2, "b"))
	r.set(1, 3, of(2, "a"))
	r.edges(5, 1, 6, 1)
	r.visible(1, 0, 1)
	r.sector(1, 0, 0)
}

func TestASlotThatMustLandFirstAndLast(t *testing.T) { // P11.5: it is written, where a ring would be closed
	r := with(t, 40, of(2, "a"), of(3, "b"))
	r.set(1, 0, none)
	r.set(1, 1, of(2, "a")) // behind slot 0; b stands there
	r.set(1, 0, of(3, "b")) // behind slot 1: slot 0 has landed first
	r.dirty(5, 6)
	r.edges(6, 5)
	if s, _ := r.d.Read(5); s != (api.Sector{}) {
		t.Errorf("slot 0 on the disk: %v", s)
	}
	r.slots(1, of(3, "b"), of(2, "a"))
	r.sync()
	r.slots(1, of(3, "b"), of(2, "a"))
}

func TestAfterIsNeitherChangedNorKept(t *testing.T) { // R4: nor is what the list has behind its end
	r := with(t, 40, of(2, "a"), of(3, "b"))
	r.set(1, 0, none)
	r.is("cache.Put", r.c.Put(2, api.Sector{1}), api.OK)
	room := []int{2, 30, 31, 32}
	r.set(1, 1, of(2, "a"), room[:1]...)
	if !slices.Equal(room, []int{2, 30, 31, 32}) {
		t.Errorf("the list: %v", room)
	}
	r.edges(2, 6, 5, 6)
	for i := range room {
		room[i] = 39
	}
	r.edges(2, 6, 5, 6)
	r.set(1, 2, none, nil...)
	r.set(1, 2, none, []int{}...)
	r.edges(2, 6, 5, 6, 7, 1)
}

func TestSetWithoutRoom(t *testing.T) { // P11.5: Lay's error; what needs no sector is set all the same
	r := rigOf(t, 8, 2) // data sectors 3 to 7
	for k := range 5 {
		r.set(1, k, of(2, "n"+strconv.Itoa(k)))
	}
	for _, k := range []int{5, 12, 44, 1067} {
		r.refused(1, k, of(2, "x"), 0, 0, 0, api.ErrSpaceBlocks, 0, 0)
	}
	r.place(1, 5, 1)
	r.set(1, 4, of(2, "x"))
	r = rigOf(t, 8, 2)
	for k := range 3 {
		r.set(1, k, of(2, "n"+strconv.Itoa(k)))
	}
	r.refused(1, 44, of(2, "x"), 0, 0, 0, api.ErrSpaceBlocks, 0, 0) // it needs three
	r.set(1, 12, of(2, "x"))
	r.sector(1, 12, 6)
}

func TestSetLetsSectorsLandForRoom(t *testing.T) { // P11.5: those that are free later alone are had by a Sync within Lay
	r := rigOf(t, 9, 3) // data sectors 4 to 8
	i, e := r.s.TakeInode()
	r.is("TakeInode", e, api.OK)
	r.is("Put", r.f.Put(i, api.Inode{Kind: api.KindFile, Links: 1}), api.OK)
	r.is("Write", r.f.Write(i, 0, make([]byte, 512)), api.OK)
	r.set(1, 0, of(3, "a"))
	r.sync()
	r.set(1, 0, none)
	r.is("Free", r.f.Free(i, 8), api.OK)
	r.place(1, 0, 0)
	r.set(1, 1, of(2, "a"))
	r.dirty(1, 4) // what stood in slot 0 has landed: it is waited for no more
	r.edges(4, 1)
	r.sector(1, 1, 4)
	r.slots(1, none, of(2, "a"))
}
