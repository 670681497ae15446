package file_test

import (
	"bytes"
	"testing"

	"breakwater/api"
)

func TestRead(t *testing.T) { // P10.5
	r := begin(t)
	data := filled(300, 1)
	r.write(2, 0, data...)
	for _, off := range []int{0, 1, 127, 128, 129, 255, 256, 299, 300, 301, 384, 1536, 136704, maxInt} {
		for _, n := range []int{0, 1, 2, 127, 128, 129, 299, 300, 301, 131072} {
			var want []byte
			if off < len(data) {
				want = data[off:min(off+n, len(data))]
			}
			r.reads(2, off, n, want)
		}
	}
	for _, k := range [][2]int{{-1, 0}, {-1, 1}, {minInt, 1}, {0, -1}, {0, minInt}, {0, 131073}, {0, maxInt}, {maxInt, maxInt}, {999, -1}, {999, 131073}} {
		if b, e := r.f.Read(2, k[0], k[1]); len(b) > 0 || e != api.ErrFileRange {
			t.Errorf("Read(%v): %v, %d", k, b, e)
		}
	}
}

func TestReadChangesNothing(t *testing.T) { // P10.5
	r := begin(t)
	r.write(2, 1500, filled(300, 1)...)
	before := r.state()
	r.reads(2, 1500, 300, filled(300, 1))
	if b, e := r.f.Read(2, -1, 0); len(b) > 0 || e != api.ErrFileRange {
		t.Errorf("Read: %v, %d", b, e)
	}
	r.count(2, 5)
	r.inode(2)
	if !r.state().equals(before) {
		t.Error("something has changed")
	}
}

func TestHolesAreZeros(t *testing.T) { // P10.5
	r := begin(t)
	r.truncate(2, 136704)
	r.reads(2, 0, 131072, zeros(131072))
	r.reads(2, 136704-131072, 131072, zeros(131072))
	r.reads(2, 136700, 9, zeros(4))
	r.write(2, 5632, 5) // its tables are there, with holes beside it
	r.reads(2, 1535, 4200, slicesAt(4200, 5632-1535, 5))
	r.write(2, 1536, 6)
	r.reads(2, 1535, 4200, slicesAt(4200, 1, 6, 5632-1535, 5))
	r.count(2, 5)
}

// slicesAt is n bytes, all 0 but for those that are told: a place and a byte, in turns.
func slicesAt(n int, told ...int) []byte {
	b := zeros(n)
	for k := 0; k < len(told); k += 2 {
		b[told[k]] = byte(told[k+1])
	}
	return b
}

func TestDirectoriesAreNotForBytes(t *testing.T) { // P10.5, P10.6, P10.7: ahead of what else is wrong
	r := begin(t)
	d := r.make(api.KindDir)
	r.lay(d, 256, block(0, 1), block(1, 2))
	for _, n := range []int{minInt, -1, 0, 128, 256, 136704, maxInt} {
		if b, e := r.f.Read(d, n, n); len(b) > 0 || e != api.ErrFileKind {
			t.Errorf("Read: %v, %d", b, e)
		}
		r.refused("Write", api.ErrFileKind, func() api.Errno { return r.f.Write(d, n, nil) })
		r.refused("Write", api.ErrFileKind, func() api.Errno { return r.f.Write(d, n, []byte{1}) })
		r.refused("Truncate", api.ErrFileKind, func() api.Errno { return r.f.Truncate(d, n) })
	}
	r.refused("Write", api.ErrFileKind, func() api.Errno { return r.f.Write(d, 0, zeros(131073)) })
}

func TestWriteAtEveryEdge(t *testing.T) { // P10.6
	offs := []int{0, 1, 126, 127, 128, 129, 1534, 1535, 1536, 1537, 5630, 5631, 5632, 5633, 136572, 136703}
	sizes := []int{1, 2, 127, 128, 129, 256, 257, 400}
	for _, off := range offs {
		for _, n := range sizes {
			r := synced(t)
			data := filled(n, off)
			if off+n > 136704 {
				r.refused("Write", api.ErrFileRange, func() api.Errno { return r.f.Write(2, off, data) })
				continue
			}
			r.write(2, off, data...)
			if x := r.inode(2); x.Size != off+n {
				t.Errorf("Write(%d, %d bytes): %+v", off, n, x)
			}
			first := max(off-200, 0)
			r.reads(2, first, 2000, append(zeros(off-first), data...))
			blocks, tables := (off+n-1)/128-off/128+1, 0
			if off < 5632 && off+n > 1536 {
				tables++
			}
			if off+n > 5632 {
				tables += 2
			}
			r.count(2, blocks+tables)
		}
	}
}

func TestWriteOfWhatMayNotBe(t *testing.T) { // P10.6
	r := synced(t)
	one, most, more := []byte{1}, zeros(131072), zeros(131073)
	for _, k := range []struct {
		off  int
		data []byte
		want api.Errno
	}{
		{-1, nil, api.ErrFileRange}, {minInt, nil, api.ErrFileRange}, {-1, one, api.ErrFileRange}, {minInt, one, api.ErrFileRange},
		{0, more, api.ErrFileRange}, {136704, more, api.ErrFileRange}, {5633, most, api.ErrFileRange}, {136704, one, api.ErrFileRange},
		{136705, nil, api.ErrFileRange}, {maxInt, nil, api.ErrFileRange}, {maxInt, one, api.ErrFileRange}, {maxInt, most, api.ErrFileRange},
		{136704, nil, api.OK}, {0, nil, api.OK}, {0, []byte{}, api.OK}, {77, nil, api.OK},
		{0, most, api.ErrSpaceBlocks}, {5632, most, api.ErrSpaceBlocks},
	} {
		r.refused("Write", k.want, func() api.Errno { return r.f.Write(2, k.off, k.data) })
	}
}

func TestWriteOfMuch(t *testing.T) { // P10.6
	r := rigOf(t, 4096, 8)
	for _, off := range []int{0, 1, 5631, 5632} {
		i := r.make(api.KindFile)
		data := filled(131072, off)
		r.write(i, off, data...)
		r.reads(i, off, 131072, data)
		if x := r.inode(i); x.Size != off+131072 {
			t.Errorf("Inode: %+v", x)
		}
		r.is("Fsync", r.f.Fsync(i), api.OK)
		r.dirty()
		r.is("Free", r.f.Free(i), api.OK)
	}
}

func TestWriteOverWhatStands(t *testing.T) { // P10.6
	r := synced(t)
	data := filled(700, 3)
	r.write(2, 0, data...)
	r.sync()
	before := r.inode(2)
	r.write(2, 250, 1, 2, 3, 4, 5, 6, 7) // blocks 1 and 2
	copy(data[250:], []byte{1, 2, 3, 4, 5, 6, 7})
	r.reads(2, 0, 999, data)
	r.dirty(10, 11)
	r.edges()
	if x := r.inode(2); x != before {
		t.Errorf("Inode: %+v", x)
	}
	r.write(2, 699, 1, 2) // it grows within its last block: that and the inode
	r.dirty(2, 10, 11, 14)
	r.edges()
	r.reads(2, 690, 99, append(data[690:699:699], 1, 2))
}

func TestBlocksThatAreTouchedRise(t *testing.T) { // P10.6
	r := synced(t)
	r.write(2, 1400, filled(300, 1)...) // blocks 10 to 13
	if x := r.inode(2); x.Direct != [12]int{10: 9, 11: 10} || x.Single != 12 {
		t.Errorf("Inode: %+v", x)
	}
	r.edges(9, 2, 10, 2, 11, 12, 12, 2, 13, 12)
}

func TestWriteWithoutRoom(t *testing.T) { // P10.6
	r := rigOf(t, 8, 2) // 5 data sectors
	i := r.make(api.KindFile)
	data := filled(512, 1)
	r.write(i, 0, data...)
	r.refused("Write", api.ErrSpaceBlocks, func() api.Errno { return r.f.Write(i, 511, filled(300, 2)) })
	r.refused("Write", api.ErrSpaceBlocks, func() api.Errno { return r.f.Write(i, 1536, []byte{1}) })
	r.reads(i, 0, 999, data)
	r.write(i, 511, filled(129, 2)...)
	r.room(0, 0, 0)
	r.write(i, 0, filled(640, 3)...)
	r.reads(i, 0, 999, filled(640, 3))
}

func TestBytesThatAreHandedInAndOut(t *testing.T) { // R4
	r := begin(t)
	room := filled(600, 1)
	data := bytes.Clone(room)
	r.write(2, 100, room[:300]...)
	if !bytes.Equal(room, data) {
		t.Error("what was handed in has changed")
	}
	clear(room)
	r.reads(2, 100, 300, data[:300])
	for range 2 {
		b, _ := r.f.Read(2, 100, 250)
		if !bytes.Equal(b, data[:250]) {
			t.Errorf("Read: %v", b)
		}
		clear(b[:cap(b)])
	}
	one, _ := r.f.Read(2, 100, 128)
	two, _ := r.f.Read(2, 100, 128)
	clear(two[:cap(two)])
	if !bytes.Equal(one, data[:128]) {
		t.Error("two answers share memory")
	}
}
