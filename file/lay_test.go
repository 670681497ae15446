package file_test

import (
	"slices"
	"testing"

	"breakwater/api"
	"breakwater/layout"
)

func TestWhatLayRefusesAndInWhichOrder(t *testing.T) { // P10.4
	r := rigOf(t, 16, 4) // data sectors 5 to 15: 11
	f, d := r.make(api.KindFile), r.make(api.KindDir)
	r.sync()
	var tooMany []api.Block
	for k := range 12 {
		tooMany = append(tooMany, block(k, 1))
	}
	lays := func(want api.Errno, i, size int, list ...api.Block) {
		t.Helper()
		r.refused("Lay", want, func() api.Errno { return r.f.Lay(i, size, list...) })
	}
	for _, size := range []int{minInt, -1, 136705, maxInt} {
		lays(api.ErrFileRange, f, size)
		lays(api.ErrFileRange, d, size)
		lays(api.ErrFileRange, f, size, append(tooMany, block(-1, 1, -1))...)
	}
	for _, size := range []int{1, 127, 129, 1535, 136703} {
		lays(api.ErrFileRange, d, size, append(tooMany, block(-1, 1, -1))...)
	}
	for _, index := range []int{minInt, -1, 1068, maxInt} {
		lays(api.ErrBlocksIndex, f, 0, append(tooMany, block(0, 1, -1), block(index, 1))...)
		lays(api.ErrBlocksIndex, d, 128, block(index, 1), block(0, 1, 16))
	}
	for _, n := range []int{minInt, -1, 16, maxInt} {
		lays(api.ErrCachePlace, f, 0, append(tooMany, block(0, 1, 0, 15, n))...)
		lays(api.ErrCachePlace, d, 0, block(0, 1, 5), block(1, 1, n, 5))
	}
	lays(api.ErrSpaceBlocks, f, 1, tooMany...)
	lays(api.ErrSpaceBlocks, d, 136704, tooMany...)
	r.lay(f, 1, tooMany[:11]...)
	r.count(f, 11)
}

func TestLayOfNoBlock(t *testing.T) { // P10.4
	r := synced(t)
	r.refused("Lay", api.OK, func() api.Errno { return r.f.Lay(2, 0) })
	for _, size := range []int{1, 127, 128, 1535, 1536, 5631, 5632, 136703, 136704} {
		want := r.inode(2)
		want.Size = size
		r.lay(2, size)
		if x := r.inode(2); x != want {
			t.Errorf("Inode: %+v", x)
		}
		r.dirty(2)
		r.edges()
		r.sync()
		for _, less := range []int{size, size - 1, 0} {
			r.refused("Lay", api.OK, func() api.Errno { return r.f.Lay(2, less) })
		}
	}
	d := r.make(api.KindDir)
	for _, size := range []int{0, 128, 1536, 136704} {
		r.lay(d, size)
		if x := r.inode(d); x.Size != size || x.Kind != api.KindDir {
			t.Errorf("Inode: %+v", x)
		}
	}
}

func TestWhereAPointerStands(t *testing.T) { // P10.4: what is taken, in which order, and what is put behind what
	for _, k := range []struct {
		index  int
		inode  api.Inode // its pointers
		places [][2]int  // tables, by their sectors, and the place of the pointer in each; they lead from the block upwards
	}{
		{0, api.Inode{Direct: [12]int{0: 9}}, nil},
		{11, api.Inode{Direct: [12]int{11: 9}}, nil},
		{12, api.Inode{Single: 10}, [][2]int{{10, 0}}},
		{43, api.Inode{Single: 10}, [][2]int{{10, 31}}},
		{44, api.Inode{Double: 11}, [][2]int{{10, 0}, {11, 0}}},
		{75, api.Inode{Double: 11}, [][2]int{{10, 31}, {11, 0}}},
		{76, api.Inode{Double: 11}, [][2]int{{10, 0}, {11, 1}}},
		{1067, api.Inode{Double: 11}, [][2]int{{10, 31}, {11, 31}}},
	} {
		r := synced(t)
		r.lay(2, 0, block(k.index, 7))
		want := k.inode
		want.Kind, want.Links, want.Made = api.KindFile, 1, 102
		if x := r.inode(2); x != want {
			t.Errorf("block %d: %+v", k.index, x)
		}
		dirty, edges, below := []int{2, 9}, []int{}, 9
		for _, p := range k.places {
			var pointers api.Pointers
			pointers[p[1]] = below
			if s, e := r.c.Read(p[0]); e != api.OK || layout.ReadPointers(s) != pointers {
				t.Errorf("block %d: table %d has %v", k.index, p[0], layout.ReadPointers(s))
			}
			dirty, edges, below = append(dirty, p[0]), append(edges, below, p[0]), p[0]
		}
		r.dirty(dirty...)
		r.edges(append(edges, below, 2)...)
		if s, e := r.c.Read(9); s != full(7) || e != api.OK {
			t.Errorf("block %d: sector 9 has %v, %d", k.index, s, e)
		}
		r.count(2, 1+len(k.places))
	}
}

func TestTablesThatAreThere(t *testing.T) { // P10.4: nothing but the table that has the pointer is put
	r := synced(t)
	r.lay(2, 136704, block(12, 1), block(44, 2)) // 9, its table 10; 11, its table 12, the double one 13
	r.sync()
	before := r.inode(2)
	r.lay(2, 0, block(43, 3)) // 14
	r.dirty(10, 14)
	r.edges(14, 10)
	r.sync()
	r.lay(2, 0, block(75, 4)) // 15
	r.dirty(12, 15)
	r.edges(15, 12)
	r.sync()
	r.lay(2, 0, block(1067, 5)) // 16, its table 17
	r.dirty(13, 16, 17)
	r.edges(16, 17, 17, 13)
	r.sync()
	if x := r.inode(2); x != before {
		t.Errorf("Inode: %+v", x)
	}
	var single, first, double, last api.Pointers
	single[0], single[31] = 9, 14
	first[0], first[31] = 11, 15
	last[31] = 16
	double[0], double[31] = 12, 17
	image := r.d.Image()
	for n, want := range map[int]api.Pointers{10: single, 12: first, 13: double, 17: last} {
		if p := layout.ReadPointers(image[n]); p != want {
			t.Errorf("table %d has %v", n, p)
		}
	}
	r.count(2, 9)
}

func TestBlocksThatAreThere(t *testing.T) { // P10.4: the block alone is put
	r := synced(t)
	indexes := []int{0, 11, 12, 43, 44, 75, 76, 1067}
	for _, k := range indexes {
		r.lay(2, 136704, block(k, 1))
	}
	r.sync()
	before := r.inode(2)
	for v, k := range indexes {
		r.lay(2, 0, block(k, byte(10+v)))
		if l := r.c.Dirty(); len(l) != 1 {
			t.Errorf("block %d: %v are dirty", k, l)
		}
		r.edges()
		r.sync()
	}
	if x := r.inode(2); x != before {
		t.Errorf("Inode: %+v", x)
	}
	for v, k := range indexes {
		s := full(byte(10 + v))
		r.reads(2, 128*k, 128, s[:])
	}
}

func TestBlocksInTheirOrder(t *testing.T) { // P10.4: as they stand in the list, not as they rise
	r := synced(t)
	r.lay(2, 0, block(76, 1), block(5, 2), block(13, 3), block(0, 4), block(45, 5), block(5, 6))
	// 76: 9, its table 10, the double one 11; 5: 12; 13: 13, its table 14; 0: 15; 45: 16, its table 17
	if x := r.inode(2); x.Direct != [12]int{0: 15, 5: 12} || x.Single != 14 || x.Double != 11 {
		t.Errorf("Inode: %+v", x)
	}
	r.edges(9, 10, 10, 11, 11, 2, 12, 2, 13, 14, 14, 2, 15, 2, 16, 17, 17, 11)
	r.reads(2, 0, 128, nil)
	if s, _ := r.c.Read(12); s != full(6) {
		t.Errorf("block 5, which stands there twice, has %v", s)
	}
}

func TestWhatABlockMustLandBehind(t *testing.T) { // P10.4
	r := synced(t)
	for _, n := range []int{1, 50, 60} {
		r.is("cache.Put", r.c.Put(n, full(1)), api.OK)
	}
	r.lay(2, 128, block(0, 1, 60, 1, 61, 60), block(12, 2, 50)) // 9; 10, its table 11
	r.edges(1, 9, 9, 2, 10, 11, 11, 2, 50, 10, 60, 9)
	r.lay(2, 128, block(0, 3, 50)) // it is there: more to land behind
	r.edges(1, 9, 9, 2, 10, 11, 11, 2, 50, 9, 50, 10, 60, 9)
	r.lay(2, 128, block(0, 3, 9)) // behind itself: nothing
	r.edges(1, 9, 9, 2, 10, 11, 11, 2, 50, 9, 50, 10, 60, 9)
}

func TestABlockThatMustLandBehindItsInode(t *testing.T) { // P10.4: the inode is written as it was
	r := begin(t)
	old := r.inode(2)
	r.lay(2, 128, block(0, 1, 2))
	if x, e := layout.ReadInode(r.d.Image()[2]); x != old || e != api.OK {
		t.Errorf("the disk has %+v, %d", x, e)
	}
	r.dirty(2, 9)
	r.edges(9, 2)
	// of one that is there, dirty, and ahead of its inode: it is written
	r.lay(2, 128, block(0, 2, 2))
	if s := r.d.Image()[9]; s != full(1) {
		t.Errorf("the disk has %v", s)
	}
	r.dirty(2, 9)
	r.edges(2, 9)
}

func TestABlockThatMustLandBehindItsTable(t *testing.T) { // P10.4: the table is written without it
	r := synced(t)
	r.lay(2, 2048, block(12, 1)) // 9, its table 10
	r.lay(2, 0, block(13, 2, 10))
	image := r.d.Image()
	if p := layout.ReadPointers(image[10]); p != (api.Pointers{9}) || image[9] != full(1) {
		t.Errorf("the disk has the table %v", p)
	}
	r.dirty(2, 10, 11)
	r.edges(11, 10)
}

func TestTheSizeThatIsPut(t *testing.T) { // P10.4: the greater of the two
	r := synced(t)
	r.lay(2, 500, block(0, 1))
	r.lay(2, 100, block(1, 2))
	if x := r.inode(2); x.Size != 500 || x.Direct[1] == 0 {
		t.Errorf("Inode: %+v", x)
	}
	r.lay(2, 501, block(1, 3))
	if x := r.inode(2); x.Size != 501 {
		t.Errorf("Inode: %+v", x)
	}
}

func TestLayThatNeedsASync(t *testing.T) { // P10.4, P10.2
	r := rigOf(t, 16, 4) // 11 data sectors, 5 to 15
	a, b := r.make(api.KindFile), r.make(api.KindFile)
	r.write(a, 0, filled(6*128, 1)...)
	r.sync()
	r.is("Free", r.f.Free(a), api.OK)
	r.write(b, 0, filled(5*128, 2)...) // what is free at once
	r.room(6, 6, 2)
	r.lay(b, 1537, block(12, 3)) // 5, and its table 6
	if x := r.inode(b); x.Single != 6 {
		t.Errorf("Inode: %+v", x)
	}
	r.room(4, 0, 2)
	r.dirty(b, 5, 6)
	if x, e := layout.ReadInode(r.d.Image()[b]); x.Size != 5*128 || e != api.OK {
		t.Errorf("the disk has %+v, %d", x, e)
	}
	r.is("Lay", r.f.Lay(b, 0, block(44, 3), block(45, 3), block(46, 3)), api.ErrSpaceBlocks)
	r.lay(b, 0, block(44, 3), block(45, 3)) // all four
	r.room(0, 0, 2)
	r.refused("Lay", api.ErrSpaceBlocks, func() api.Errno { return r.f.Lay(b, 0, block(44, 9), block(46, 3)) })
	r.lay(b, 0, block(44, 9)) // it needs none
}

func TestLayThatIsRefusedWritesNothing(t *testing.T) { // P10.4: of ErrSpaceBlocks
	r := threeLater(t)
	r.write(2, 0, 7)
	var list []api.Block
	for k := range 36 {
		list = append(list, block(100+k, 1))
	}
	r.refused("Lay", api.ErrSpaceBlocks, func() api.Errno { return r.f.Lay(2, 136704, list...) })
	r.refused("Lay", api.ErrSpaceBlocks, func() api.Errno { return r.f.Lay(2, 136704, list[:33]...) }) // and 3 tables
	r.lay(2, 136704, list[:32]...)
	r.room(0, 0, 6)
}

func TestAllBlocks(t *testing.T) { // P10.4, P10.3
	r := rigOf(t, 1112, 8) // 1103 data sectors
	i := r.make(api.KindFile)
	var list []api.Block
	for k := range 1068 {
		list = append(list, block(1067-k, byte(k)))
	}
	r.lay(i, 136704, list...)
	r.count(i, 1102)
	r.room(1, 0, 6)
	for _, k := range []int{0, 11, 12, 43, 44, 75, 76, 1067} {
		s := full(byte(1067 - k))
		r.reads(i, 128*k, 128, s[:])
	}
	r.is("Fsync", r.f.Fsync(i), api.OK)
	r.dirty()
	r.truncate(i, 0)
	r.count(i, 0)
	r.room(1103, 0, 6)
}

func TestWhatIsHandedToLay(t *testing.T) { // R4
	r := synced(t)
	r.is("cache.Put", r.c.Put(60, full(1)), api.OK)
	after := []int{60, 61, 62, 63}
	room := []api.Block{block(0, 1, after[:2]...), block(12, 2, after[:1]...), block(44, 3), block(45, 4)}
	r.lay(2, 136704, room[:3]...)
	if !slices.Equal(after, []int{60, 61, 62, 63}) || room[3].Index != 45 || room[1].Index != 12 || room[1].Data != full(2) || len(room[0].After) != 2 {
		t.Errorf("what was handed in is now %v, %v", after, room)
	}
	for k := range room {
		room[k] = block(9, 9)
	}
	after[0], after[1] = 1, 1
	r.edges(9, 2, 10, 11, 11, 2, 12, 13, 13, 14, 14, 2, 60, 9, 60, 10)
	r.sync()
	image := r.d.Image()
	if image[9] != full(1) || image[10] != full(2) || image[12] != full(3) {
		t.Errorf("the disk has %v", image[9:13])
	}
}

func TestSectorsThatAreNotThere(t *testing.T) { // errors of the layers below go up, and nothing is promised but that calls end
	for _, x := range []api.Inode{
		{Kind: api.KindFile, Size: 136704, Single: 64},
		{Kind: api.KindFile, Size: 136704, Double: 1<<32 - 1},
		{Kind: api.KindFile, Size: 136704, Single: 64, Double: 64},
	} {
		r := begin(t)
		r.is("Put", r.f.Put(2, x), api.OK)
		if _, e := r.f.Count(2); e != api.ErrCachePlace {
			t.Errorf("Count: %d", e)
		}
		if b, e := r.f.Read(2, 1536, 5000); len(b) > 0 || e != api.ErrCachePlace {
			t.Errorf("Read: %v, %d", b, e)
		}
		r.refused("Fsync", api.ErrCachePlace, func() api.Errno { return r.f.Fsync(2) })
		r.refused("Truncate", api.ErrCachePlace, func() api.Errno { return r.f.Truncate(2, 1) })
		r.refused("Free", api.ErrCachePlace, func() api.Errno { return r.f.Free(2) })
		r.refused("Lay", api.ErrCachePlace, func() api.Errno { return r.f.Lay(2, 0, block(12, 1), block(44, 1)) })
		r.refused("Write", api.ErrCachePlace, func() api.Errno { return r.f.Write(2, 5500, filled(300, 1)) })
	}
}

func TestTablesThatLeadInARing(t *testing.T) { // all calls end
	r := begin(t)
	var p api.Pointers
	for k := range p {
		p[k] = 20
	}
	s, _ := layout.PointersSector(p)
	r.is("cache.Put", r.c.Put(20, s), api.OK)
	x := api.Inode{Kind: api.KindFile, Size: 136704, Single: 20, Double: 20}
	r.is("Put", r.f.Put(2, x), api.OK)
	r.f.Count(2)
	r.f.Read(2, 0, 1<<17)
	r.f.Fsync(2)
	r.f.Lay(2, 0, block(0, 1), block(12, 1), block(44, 1))
	r.f.Write(2, 5000, filled(1000, 1))
	r.f.Truncate(2, 6000)
	r.f.Truncate(2, 0)
	r.f.Free(2)
}
