package file_test

import (
	"testing"

	"breakwater/api"
	"breakwater/file"
	"breakwater/layout"
)

func TestTheExamples(t *testing.T) { // the chapter's table, row by row
	r := begin(t)
	if f, e := file.New(nil, r.s); f != nil || e != api.ErrArg {
		t.Errorf("New: %v, %d", f, e)
	}
	if _, e := r.f.Inode(3); e != api.ErrFileInode {
		t.Errorf("Inode(3): %d", e)
	}
	if _, e := r.f.Read(9, 0, 1); e != api.ErrFileInode {
		t.Errorf("Read(9): %d", e)
	}
	r.write(2, 130, 1, 2, 3)
	if x := r.inode(2); x.Size != 133 || x.Direct != [12]int{1: 9} {
		t.Errorf("Inode: %+v", x)
	}
	r.count(2, 1)
	r.reads(2, 120, 99, append(zeros(10), 1, 2, 3))
	r.write(2, 1536, 4)
	if x := r.inode(2); x.Single != 11 || x.Double != 0 {
		t.Errorf("Inode: %+v", x)
	}
	r.edges(9, 2, 10, 11, 11, 2)
	r.write(2, 5632, 5)
	if x := r.inode(2); x.Double != 14 {
		t.Errorf("Inode: %+v", x)
	}
	r.count(2, 6)
	r.truncate(2, 131)
	if x := r.inode(2); x.Size != 131 || x.Single != 0 || x.Double != 0 {
		t.Errorf("Inode: %+v", x)
	}
	r.reads(2, 128, 9, []byte{0, 0, 1})
	if x := r.s.Room(); x.Later != 0 {
		t.Errorf("Room: %+v", x)
	}
	r.dirty()
	r.refused("Write at -1", api.ErrFileRange, func() api.Errno { return r.f.Write(2, -1, []byte{1}) })
	r.refused("Write at the end", api.ErrFileRange, func() api.Errno { return r.f.Write(2, 136704, []byte{1}) })
	r.refused("Write of none at the end", api.OK, func() api.Errno { return r.f.Write(2, 136704, nil) })
	r.refused("Truncate", api.ErrFileRange, func() api.Errno { return r.f.Truncate(2, 136705) })
	r.refused("Lay", api.ErrBlocksIndex, func() api.Errno { return r.f.Lay(2, 0, block(1068, 1)) })
	r.refused("Lay", api.ErrFileRange, func() api.Errno { return r.f.Lay(2, -1) })
	r.refused("Lay", api.ErrCachePlace, func() api.Errno { return r.f.Lay(2, 0, block(0, 1, 64)) })
	r.refused("Ensure", api.ErrSpaceBlocks, func() api.Errno { return r.f.Ensure(56) })
	r.refused("Ensure", api.OK, func() api.Errno { return r.f.Ensure(-1) })
	r.refused("Free(1)", api.ErrFileInode, func() api.Errno { return r.f.Free(1) })
	r.is("Free(2)", r.f.Free(2), api.OK)
	if _, e := r.f.Inode(2); e != api.ErrFileInode {
		t.Errorf("Inode(2): %d", e)
	}
	if x := r.s.Room(); x.Later != 1 {
		t.Errorf("Room: %+v", x)
	}
	r.sync()
	r.room(55, 0, 7)
}

func TestNew(t *testing.T) { // P10.1
	r := begin(t)
	if f, e := file.New(r.c, nil); f != nil || e != api.ErrArg {
		t.Errorf("New without a space: %v, %d", f, e)
	}
	if f, e := file.New(nil, nil); f != nil || e != api.ErrArg {
		t.Errorf("New without both: %v, %d", f, e)
	}
}

// call is one that is handed an inode's number.
type call struct {
	what string
	do   func(f *file.Files, i int) api.Errno
}

// wrongCalls hand in what is refused by all but the inode, so that what comes ahead of all else is seen.
func wrongCalls() []call {
	return []call{
		{"Lay", func(f *file.Files, i int) api.Errno { return f.Lay(i, -1, block(-1, 1, -1)) }},
		{"Read", func(f *file.Files, i int) api.Errno {
			b, e := f.Read(i, -1, -1)
			if len(b) > 0 {
				return api.OK
			}
			return e
		}},
		{"Write", func(f *file.Files, i int) api.Errno { return f.Write(i, -1, nil) }},
		{"Truncate", func(f *file.Files, i int) api.Errno { return f.Truncate(i, -1) }},
		{"Free", func(f *file.Files, i int) api.Errno { return f.Free(i, -1) }},
		{"Fsync", func(f *file.Files, i int) api.Errno { return f.Fsync(i) }},
		{"Count", func(f *file.Files, i int) api.Errno {
			n, e := f.Count(i)
			if n != 0 {
				return api.OK
			}
			return e
		}},
	}
}

func TestInodesThatAreNotInUse(t *testing.T) { // P10.1
	r := begin(t)
	r.write(2, 0, 1)
	calls := append(wrongCalls(),
		call{"Inode", func(f *file.Files, i int) api.Errno {
			x, e := f.Inode(i)
			if x != (api.Inode{}) {
				return api.OK
			}
			return e
		}},
		call{"Put", func(f *file.Files, i int) api.Errno { return f.Put(i, api.Inode{Kind: 3}, -1) }})
	for _, i := range []int{minInt, -1, 0, 3, 8, 9, 63, 64, maxInt} {
		for _, k := range calls {
			r.refused(k.what, api.ErrFileInode, func() api.Errno { return k.do(r.f, i) })
		}
	}
}

func TestInodesThatWereNeverPut(t *testing.T) { // P10.1
	r := begin(t)
	i, _ := r.s.TakeInode()
	for _, k := range wrongCalls() {
		r.refused(k.what, api.ErrFileInode, func() api.Errno { return k.do(r.f, i) })
		r.refused(k.what, api.ErrFileInode, func() api.Errno { return k.do(r.f, 1) })
	}
	if x, e := r.f.Inode(i); x != (api.Inode{}) || e != api.OK {
		t.Errorf("Inode: %+v, %d", x, e)
	}
	r.is("Put", r.f.Put(i, api.Inode{}), api.OK)
	for _, k := range wrongCalls() {
		r.refused(k.what, api.ErrFileInode, func() api.Errno { return k.do(r.f, i) })
	}
	r.is("Put", r.f.Put(i, api.Inode{Kind: api.KindFile}), api.OK)
	r.write(i, 0, 1)
}

func TestInodesThatAreNone(t *testing.T) { // errors of the layers below go up
	r := begin(t)
	i, _ := r.s.TakeInode()
	r.is("cache.Put", r.c.Put(i, full(7)), api.OK)
	for _, k := range wrongCalls() {
		r.refused(k.what, api.ErrLayoutInode, func() api.Errno { return k.do(r.f, i) })
	}
	r.is("Put", r.f.Put(i, api.Inode{Kind: api.KindFile}), api.OK)
	r.write(i, 0, 1)
}

func TestSettle(t *testing.T) { // P10.2
	r := synced(t)
	r.write(2, 0, filled(300, 1)...)
	r.is("Free", r.f.Free(2), api.OK)
	r.flush(2)
	if x := r.s.Room(); x != (api.Room{Blocks: 55, Later: 3, Inodes: 7}) {
		t.Errorf("ahead of Settle: %+v", x)
	}
	r.is("Settle", r.f.Settle(), api.OK)
	if x := r.s.Room(); x != (api.Room{Blocks: 55, Inodes: 7}) {
		t.Errorf("behind Settle: %+v", x)
	}
	r.landed()
	r.is("Settle of nothing", r.f.Settle(), api.OK)
}

func TestRoomSettles(t *testing.T) { // P10.2
	r := synced(t)
	r.write(2, 0, filled(300, 1)...)
	r.is("Free", r.f.Free(2), api.OK)
	r.room(55, 3, 7)
	r.flush(2)
	r.room(55, 0, 7)
	r.landed()
}

func TestTagsThatAreNoDataSectors(t *testing.T) { // P10.2: Settle is refused
	for _, tag := range []int{-1, 0, 2, 8, 64} {
		r := begin(t)
		r.is("Mark", r.c.Mark(63, tag), api.OK)
		r.is("Settle", r.f.Settle(), api.ErrSpacePlace)
		r.is("Mark", r.c.Mark(63, tag), api.OK)
		r.room(0, 0, 0)
		r.room(55, 0, 6)
		r.is("Mark", r.c.Mark(63, tag), api.OK)
		r.is("Ensure", r.f.Ensure(0), api.ErrSpacePlace)
		r.is("Mark", r.c.Mark(63, tag), api.OK)
		r.is("Lay", r.f.Lay(2, 128, block(0, 1)), api.ErrSpacePlace)
		r.count(2, 0)
		r.is("Mark", r.c.Mark(63, tag), api.OK)
		r.is("Write", r.f.Write(2, 0, []byte{1}), api.ErrSpacePlace)
		r.reads(2, 0, 9, nil)
	}
}

// threeLater is a rig of 55 data sectors of which 20 are in use and 3 are free later alone; sector 3 is dirty, which they wait for.
func threeLater(t *testing.T) *rig {
	r := begin(t)
	i := r.make(api.KindFile)
	r.write(i, 0, filled(300, 1)...)
	r.write(2, 0, filled(19*128, 2)...) // and a table
	r.sync()
	r.is("Free", r.f.Free(i), api.OK)
	r.dirty(3)
	return r
}

func TestEnsure(t *testing.T) { // P10.2
	for _, need := range []int{minInt, -1, 0, 1, 32} {
		r := threeLater(t)
		r.refused("Ensure", api.OK, func() api.Errno { return r.f.Ensure(need) })
		r.room(35, 3, 6)
	}
	for _, need := range []int{33, 34, 35} { // it needs a Sync
		r := threeLater(t)
		writes := r.d.Writes()
		r.is("Ensure", r.f.Ensure(need), api.OK)
		r.dirty()
		if x := r.s.Room(); x != (api.Room{Blocks: 35, Inodes: 6}) || r.d.Writes() != writes+1 {
			t.Errorf("Ensure(%d): %+v, %d writes", need, x, r.d.Writes()-writes)
		}
	}
	for _, need := range []int{36, 55, 56, maxInt} {
		r := threeLater(t)
		r.refused("Ensure", api.ErrSpaceBlocks, func() api.Errno { return r.f.Ensure(need) })
	}
}

func TestEnsureSettlesFirst(t *testing.T) { // P10.2: no Sync, where what has landed is enough
	r := threeLater(t)
	r.is("Put", r.f.Put(2, r.inode(2)), api.OK)
	r.flush(3)
	writes := r.d.Writes()
	r.is("Ensure", r.f.Ensure(35), api.OK)
	r.dirty(2)
	if r.d.Writes() != writes {
		t.Errorf("%d writes", r.d.Writes()-writes)
	}
	r = threeLater(t)
	r.flush(3)
	r.is("Ensure", r.f.Ensure(36), api.ErrSpaceBlocks)
	if x := r.s.Room(); x.Later != 0 {
		t.Errorf("Room: %+v", x)
	}
}

func TestEnsureThatLosesItsDisk(t *testing.T) { // P10.2, R3
	r := threeLater(t)
	image := r.d.Image()
	r.d.Arm(0)
	r.is("Ensure", r.f.Ensure(33), api.ErrDiskDown)
	r.goodForNothing(image)
}

// goodForNothing holds files that have lost their disk to ending, and to writing nothing, even if the disk comes back.
func (r *rig) goodForNothing(image []api.Sector) {
	r.Helper()
	for range 2 {
		for _, i := range []int{1, 2, 3, 9} {
			for _, k := range wrongCalls() {
				k.do(r.f, i)
			}
			r.f.Inode(i)
			r.f.Put(i, api.Inode{Kind: api.KindFile}, 2)
			r.f.Lay(i, 5633, block(44, 1, 2))
			r.f.Write(i, 1536, []byte{1})
			r.f.Read(i, 0, 5000)
			r.f.Fsync(i)
			r.f.Truncate(i, 0)
			r.f.Free(i)
			r.f.Ensure(55)
			r.f.Room()
		}
		if now := r.d.Image(); len(now) != len(image) {
			r.Errorf("the disk has %d sectors", len(now))
		} else {
			for n := range now {
				if now[n] != image[n] {
					r.Errorf("sector %d has changed", n)
				}
			}
		}
		r.d.Restart()
	}
}

func TestPut(t *testing.T) { // P10.3
	r := synced(t)
	x := api.Inode{Kind: api.KindDir, Links: 3, Size: 256, Made: 1 << 40, Direct: [12]int{11: 60}, Single: 61, Double: 1<<32 - 1}
	r.is("cache.Put", r.c.Put(40, full(1)), api.OK)
	r.is("cache.Put", r.c.Put(20, full(1)), api.OK)
	r.is("Put", r.f.Put(2, x, 40, 2, 41, 20, 40), api.OK)
	if got := r.inode(2); got != x {
		t.Errorf("Inode: %+v", got)
	}
	r.edges(20, 2, 40, 2)
	r.dirty(2, 20, 40)
	r.sync()
	if got, e := layout.ReadInode(r.d.Image()[2]); got != x || e != api.OK {
		t.Errorf("the disk has %+v, %d", got, e)
	}
	r.refused("Put", api.ErrLayoutInode, func() api.Errno { return r.f.Put(2, api.Inode{Kind: 3}, -1) })
	r.refused("Put", api.ErrLayoutInode, func() api.Errno { return r.f.Put(2, api.Inode{Kind: api.KindDir, Size: 100}) })
	for _, n := range []int{minInt, -1, 64, maxInt} {
		r.refused("Put", api.ErrCachePlace, func() api.Errno { return r.f.Put(2, x, 9, n) })
	}
}

func TestPutOfOneThatIsInTheWay(t *testing.T) { // P10.3: it is drained by the cache
	r := begin(t)
	r.is("cache.Put", r.c.Put(40, full(1), 2), api.OK)
	r.is("Put", r.f.Put(2, api.Inode{Kind: api.KindFile, Links: 9}, 40), api.OK)
	if x, e := layout.ReadInode(r.d.Image()[2]); x.Links != 1 || e != api.OK {
		t.Errorf("the disk has %+v, %d", x, e)
	}
	r.edges(40, 2)
}

func TestCount(t *testing.T) { // P10.3
	r := rigOf(t, 200, 8)
	for _, kind := range []int{api.KindFile, api.KindDir} {
		i := r.make(kind)
		want := 0
		for _, k := range []struct{ index, more int }{{0, 1}, {11, 1}, {12, 2}, {43, 1}, {44, 3}, {75, 1}, {76, 2}, {1067, 2}, {1067, 0}, {0, 0}} {
			r.lay(i, 0, block(k.index, 1))
			want += k.more
			r.count(i, want)
		}
	}
	if x, e := r.f.Inode(2); x.Size != 0 || e != api.OK {
		t.Errorf("Inode: %+v, %d", x, e)
	}
}

func TestFsync(t *testing.T) { // P10.8
	r := synced(t)
	other := r.make(api.KindFile)
	r.write(other, 0, 9)
	r.write(2, 5632, 1) // 10, 11, 12
	r.write(2, 0, 2)    // 13
	r.is("Put", r.f.Put(2, r.inode(2), other), api.OK)
	r.is("Fsync", r.f.Fsync(2), api.OK) // 3 lands too, since 2 does behind it, and 9 ahead of that
	r.dirty()
	r.is("Fsync", r.f.Fsync(2), api.OK)
	r.write(other, 0, 8)
	r.write(2, 1, 3)
	r.is("Fsync", r.f.Fsync(2), api.OK)
	r.dirty(9)
	writes := r.d.Writes()
	r.is("Fsync of what has nothing dirty", r.f.Fsync(2), api.OK)
	if r.d.Writes() != writes {
		t.Errorf("%d writes", r.d.Writes()-writes)
	}
}

func TestFsyncOfADirectory(t *testing.T) { // P10.8: it is no error
	r := synced(t)
	d := r.make(api.KindDir)
	r.lay(d, 1664, block(12, 5), block(0, 6))
	r.is("Fsync", r.f.Fsync(d), api.OK)
	r.dirty()
}

func TestTheOrderOfFsync(t *testing.T) { // P10.8: own sectors rising, each with what must land ahead of it; then the inode
	lay := func() *rig {
		r := synced(t)
		r.is("cache.Put", r.c.Put(60, full(60)), api.OK)
		r.is("cache.Put", r.c.Put(61, full(61)), api.OK)
		r.is("cache.Put", r.c.Put(1, full(1)), api.OK)
		r.lay(2, 1537, block(3, 1, 61), block(12, 2), block(1, 3, 60)) // 9; 10 and its table 11; 12
		r.edges(9, 2, 10, 11, 11, 2, 12, 2, 60, 12, 61, 9)
		return r
	}
	order := []int{61, 9, 10, 11, 60, 12, 2}
	for left := range len(order) + 1 {
		r := lay()
		before := r.d.Image()
		r.d.Arm(left)
		want := api.ErrDiskDown
		if left == len(order) {
			want = api.OK
		}
		r.is("Fsync", r.f.Fsync(2), want)
		var landed []int
		for n, s := range r.d.Image() {
			if s != before[n] {
				landed = append(landed, n)
			}
		}
		if len(landed) != left {
			t.Errorf("%d writes: %v landed", left, landed)
		}
		for _, n := range order[:left] {
			if r.d.Image()[n] == before[n] {
				t.Errorf("%d writes: %d has not landed", left, n)
			}
		}
		if want != api.OK {
			r.goodForNothing(r.d.Image())
		} else {
			r.dirty(1)
		}
	}
}
