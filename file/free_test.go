package file_test

import (
	"slices"
	"testing"

	"breakwater/api"
)

func TestFreeOfWhatMayNotBe(t *testing.T) { // P10.9
	r := begin(t)
	r.is("Put", r.f.Put(1, api.Inode{Kind: api.KindDir, Links: 1}), api.OK)
	r.refused("Free of the root", api.ErrFileInode, func() api.Errno { return r.f.Free(1) })
	r.refused("Free of the root", api.ErrFileInode, func() api.Errno { return r.f.Free(1, -1) })
	r.write(2, 0, filled(2000, 1)...)
	d := r.make(api.KindDir)
	r.lay(d, 128, block(0, 1))
	for _, n := range []int{minInt, -1, 64, maxInt} {
		for _, i := range []int{2, d} {
			r.refused("Free", api.ErrCachePlace, func() api.Errno { return r.f.Free(i, n) })
			r.refused("Free", api.ErrCachePlace, func() api.Errno { return r.f.Free(i, 0, 63, n) })
		}
	}
}

func TestFreeOfAFile(t *testing.T) { // P10.9
	r := synced(t)
	r.is("cache.Put", r.c.Put(60, full(60)), api.OK)
	r.is("cache.Put", r.c.Put(61, full(61)), api.OK)
	r.lay(2, 5633, block(0, 1, 61), block(12, 2), block(44, 3)) // 9; 10, its table 11; 12, its table 13, the double one 14
	r.is("Free", r.f.Free(2, 60, 50, 2, 60), api.OK)
	r.dirty(2, 60, 61) // its own are dropped
	r.edges(60, 2)
	if s, e := r.c.Read(2); s != (api.Sector{}) || e != api.OK {
		t.Errorf("sector 2 has %v, %d", s, e)
	}
	if x := r.s.Room(); x != (api.Room{Blocks: 55, Later: 6, Inodes: 7}) || r.s.Used(2) {
		t.Errorf("Room: %+v", x)
	}
	r.flush(60)
	r.landed()
	r.flush(2)
	r.landed(9, 10, 11, 12, 13, 14)
	for _, k := range wrongCalls() {
		r.is(k.what, k.do(r.f, 2), api.ErrFileInode)
	}
}

func TestFreeOfAFileThatHasLanded(t *testing.T) { // P10.9
	r := sparse(t)
	image := r.d.Image()
	r.is("Free", r.f.Free(2), api.OK)
	r.dirty(2)
	r.edges()
	r.room(55, 21, 7)
	image[2] = api.Sector{}
	r.sync()
	if !slices.Equal(r.d.Image(), image) {
		t.Error("more than the inode has landed")
	}
	r.room(55, 0, 7)
}

func TestFreeOfOneWithoutSectors(t *testing.T) { // P10.9
	for _, kind := range []int{api.KindFile, api.KindDir} {
		r := rigOf(t, 64, 8)
		i := r.make(kind)
		r.is("Free", r.f.Free(i), api.OK)
		r.dirty(i)
		r.edges()
		r.room(55, 0, 7)
	}
}

func TestFreeOfADirectory(t *testing.T) { // P10.9
	r := synced(t)
	d := r.make(api.KindDir)
	r.lay(d, 256, block(0, 1), block(1, 2)) // 9, 10
	r.sync()
	r.is("cache.Put", r.c.Put(60, full(60)), api.OK)
	r.lay(d, 1664, block(1, 3), block(12, 4, 60)) // 11, its table 12
	r.dirty(d, 10, 11, 12, 60)
	r.edges(11, 12, 12, d, 60, 11)
	r.is("Free", r.f.Free(d, 60), api.OK)
	r.dirty(d, 10, 11, 12, 60) // none is dropped
	r.edges(10, d, 11, d, 11, 12, 12, d, 60, d, 60, 11)
	if s, e := r.c.Read(11); s != full(4) || e != api.OK {
		t.Errorf("sector 11 has %v, %d", s, e)
	}
	if s, e := r.c.Read(d); s != (api.Sector{}) || e != api.OK {
		t.Errorf("sector %d has %v, %d", d, s, e)
	}
	r.room(55, 4, 6) // 9, 10, 11, 12
	r.flush(10, 60, 11, 12)
	r.landed()
	r.flush(d)
	r.landed(9, 10, 11, 12)
}

func TestFreeBehindWhatWaitsForIt(t *testing.T) { // P10.9: what still has to land of the old inode lands with its blocks
	for _, kind := range []int{api.KindFile, api.KindDir} {
		r := rigOf(t, 64, 8)
		i := r.make(kind)
		r.lay(i, 1664, block(0, 1), block(12, 2)) // 9; 10, its table 11
		old, _ := r.c.Read(i)
		r.is("cache.Put", r.c.Put(60, full(60), i), api.OK)
		r.is("Free", r.f.Free(i, 60), api.OK)
		image := r.d.Image()
		if image[i] != old || image[9] != full(1) || image[10] != full(2) || image[60] != (api.Sector{}) {
			t.Errorf("the disk has %v", image)
		}
		r.dirty(i, 60)
		r.edges(60, i)
		r.room(55, 3, 7)
	}
}

func TestAnInodeThatIsMadeAnew(t *testing.T) { // P10.9: while what it had is free later
	r := synced(t)
	r.write(2, 0, filled(300, 1)...) // 9, 10, 11
	r.sync()
	r.is("Free", r.f.Free(2), api.OK)
	if i := r.make(api.KindFile); i != 2 {
		t.Errorf("inode %d", i)
	}
	r.count(2, 0)
	r.reads(2, 0, 9, nil)
	r.write(2, 0, 7)
	if x := r.inode(2); x.Direct != [12]int{12} || x.Size != 1 {
		t.Errorf("Inode: %+v", x)
	}
	r.room(54, 3, 6)
	r.is("Free", r.f.Free(2), api.OK)
	r.room(55, 4, 7)
	r.make(api.KindFile)
	r.write(2, 0, 8)
	r.is("Fsync", r.f.Fsync(2), api.OK)
	r.room(54, 0, 6)
	r.write(2, 128, 9) // the least one
	if x := r.inode(2); x.Direct != [12]int{13, 9} {
		t.Errorf("Inode: %+v", x)
	}
	r.reads(2, 0, 999, slicesAt(129, 0, 8, 128, 9))
}

func TestFreeThatLosesItsDisk(t *testing.T) { // P10.9, R3
	for left := range 4 {
		r := synced(t)
		r.lay(2, 256, block(0, 1), block(1, 2)) // 9, 10
		r.is("cache.Put", r.c.Put(60, full(60), 2), api.OK)
		r.d.Arm(left)
		if left == 3 {
			r.is("Free", r.f.Free(2, 60), api.OK)
			continue
		}
		r.is("Free", r.f.Free(2, 60), api.ErrDiskDown)
		image := r.d.Image()
		for k, n := range []int{9, 10} {
			if (image[n] == full(byte(k+1))) != (k < left) {
				t.Errorf("%d writes: sector %d has %v", left, n, image[n])
			}
		}
		r.goodForNothing(image)
	}
}

func TestWhatIsHandedToFree(t *testing.T) { // R4
	r := synced(t)
	for _, n := range []int{60, 61} {
		r.is("cache.Put", r.c.Put(n, full(1)), api.OK)
	}
	d := r.make(api.KindDir)
	r.lay(d, 128, block(0, 1)) // 9
	after := []int{61, 60, 7, 7, 7, 7}
	r.is("Free", r.f.Free(d, after[:2]...), api.OK)
	if !slices.Equal(after, []int{61, 60, 7, 7, 7, 7}) {
		t.Errorf("after is now %v", after)
	}
	clear(after)
	r.edges(9, d, 60, d, 61, d)
	i := r.make(api.KindFile)
	after = []int{61, 60, 7}
	r.is("Put", r.f.Put(i, api.Inode{Kind: api.KindFile}, after[:2]...), api.OK)
	if !slices.Equal(after, []int{61, 60, 7}) {
		t.Errorf("after is now %v", after)
	}
	clear(after)
	r.edges(9, 3, 60, 3, 61, 3)
}

func TestNumbersThatAreNoneComeFirst(t *testing.T) { // P10.4, P10.9, R2: ahead of what the disk answers
	for _, call := range []func(r *rig) api.Errno{
		func(r *rig) api.Errno { return r.f.Free(2, 63, 64) },
		func(r *rig) api.Errno { return r.f.Lay(2, 0, block(13, 1, 63, 64)) },
	} {
		r := synced(t)
		r.lay(2, 5633, block(12, 1), block(44, 2))
		r.sync()
		r.is("Put", r.f.Put(2, r.inode(2)), api.OK)
		r.d.Arm(0)
		r.is("disk.Write", r.d.Write(63, full(1)), api.ErrDiskDown)
		r.is("it", call(r), api.ErrCachePlace)
	}
}
