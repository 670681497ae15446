package file_test

import (
	"bytes"
	"slices"
	"testing"

	"breakwater/api"
	"breakwater/blocks"
	"breakwater/cache"
	"breakwater/disk"
	"breakwater/layout"
)

// rows are files as rows of bytes, by their inodes.
type rows map[int][]byte

// write is what a Write makes of one.
func (x rows) write(i, off int, data []byte) {
	row := x[i]
	if n := off + len(data) - len(row); n > 0 && len(data) > 0 {
		row = append(row, zeros(n)...)
	}
	copy(row[min(off, len(row)):], data)
	x[i] = row
}

// truncate is what a Truncate makes of one.
func (x rows) truncate(i, size int) {
	row := x[i][:min(size, len(x[i]))]
	x[i] = append(bytes.Clone(row), zeros(size-len(row))...)
}

// change is what a deed makes of all.
func (x rows) change(k deed) {
	switch k.kind {
	case doMake:
		x[k.i] = nil
	case doWrite:
		x.write(k.i, k.n, k.data)
	case doTruncate:
		x.truncate(k.i, k.n)
	case doFree:
		delete(x, k.i)
	}
}

// someOfFiles is a deed with files alone, each of which was made with a fresh inode; those above last were not.
func someOfFiles(next func(int) int, x rows, last *int, inodes, sectors int) deed {
	if len(x) == 0 || next(10) == 0 && *last < inodes {
		*last++
		return deed{kind: doMake, i: *last, n: api.KindFile}
	}
	var live []int
	for i := range inodes + 1 {
		if _, is := x[i]; is {
			live = append(live, i)
		}
	}
	i := live[next(len(live))]
	switch next(10) {
	case 0, 1, 2, 3:
		data := someData(next)
		return deed{kind: doWrite, i: i, n: someOffset(next, len(data)), data: data}
	case 4, 5:
		return deed{kind: doTruncate, i: i, n: someOffset(next, 0)}
	case 6:
		if next(2) == 0 && len(live) > 1 {
			return deed{kind: doFree, i: i, after: someSectors(next, sectors)}
		}
		return deed{kind: doFsync, i: i}
	case 7:
		return deed{kind: doSync}
	}
	return deed{kind: doFlush, n: next(sectors)}
}

// allTaken is a rig of which all inodes are taken, so that each is made once.
func allTaken(t *testing.T, sectors, inodes int) *rig {
	t.Helper()
	r := rigOf(t, sectors, inodes)
	for range inodes - 1 {
		_, e := r.s.TakeInode()
		r.is("TakeInode", e, api.OK)
	}
	return r
}

// readsAll holds a file to its row, whole and in parts.
func (r *rig) readsAll(next func(int) int, i int, row []byte) {
	r.Helper()
	if x := r.inode(i); x.Size != len(row) {
		r.Errorf("inode %d has the size %d, want %d", i, x.Size, len(row))
	}
	var all []byte
	for off := 0; off <= len(row); off += 131072 {
		b, e := r.f.Read(i, off, 131072)
		r.is("Read", e, api.OK)
		all = append(all, b...)
	}
	if !bytes.Equal(all, row) {
		r.Errorf("inode %d: other bytes than were written", i)
	}
	for range 4 {
		off, n := next(len(row)+200), next(400)
		from := min(off, len(row))
		r.reads(i, off, n, row[from:min(from+n, len(row))])
	}
}

func TestARowOfBytes(t *testing.T) { // P10.10
	for seed := range uint32(60) {
		next := steps(seed)
		sectors := 100 + next(900)
		r, x, last := allTaken(t, sectors, 20), rows{}, 1
		for range 80 {
			k := someOfFiles(next, x, &last, 20, sectors)
			switch e := k.of(r); e {
			case api.OK:
				x.change(k)
			case api.ErrSpaceBlocks:
			default:
				t.Fatalf("seed %d: %+v: %d", seed, k, e)
			}
			if row, is := x[k.i]; is {
				r.readsAll(next, k.i, row)
			}
		}
		for i, row := range x {
			r.readsAll(next, i, row)
		}
		if t.Failed() {
			t.Fatalf("seed %d", seed)
		}
	}
}

func TestRefusedJustIfThereIsNoRoom(t *testing.T) { // P10.11
	refused, inTime := 0, 0
	for seed := range uint32(150) {
		next := steps(seed + 700)
		sectors := 16 + next(40)
		r, p := rigOf(t, sectors, 4), plainOf(t, sectors, 4)
		for range 60 {
			k := some(next, p, sectors)
			used, before := 0, r.state()
			for _, x := range p.made {
				used += len(x.own())
			}
			later := r.s.Room().Later
			want := api.OK
			if k.kind == doLay && used+p.made[k.i].need(k.list) > sectors-5 {
				want = api.ErrSpaceBlocks
			}
			if k.kind == doEnsure && used+k.n > sectors-5 {
				want = api.ErrSpaceBlocks
			}
			if k.kind == doWrite {
				var list []api.Block
				for at := range k.data {
					list = append(list, api.Block{Index: (k.n + at) / 128})
				}
				if used+p.made[k.i].need(list) > sectors-5 {
					want = api.ErrSpaceBlocks
				}
			}
			r.is("it", k.of(r), want)
			k.ofPlain(p)
			if want != api.OK {
				refused++
				if x := r.state(); !slices.Equal(x.read, before.read) || x.room.Blocks != before.room.Blocks {
					t.Errorf("something that is read has changed")
				}
			} else if k.kind == doLay && later > 0 && r.s.Room().Later == 0 {
				inTime++
			}
			if t.Failed() {
				t.Fatalf("seed %d: %+v", seed, k)
			}
		}
	}
	if refused < 100 || inTime < 10 {
		t.Errorf("%d were refused, %d were in time: too few to tell", refused, inTime)
	}
}

// had is what a block of an inode has had.
type had struct {
	i, index int
	bytes    api.Sector
}

// history is all that blocks have had.
type history map[had]int

// note adds what the blocks have that a deed has touched.
func (h history) note(k deed, row []byte) {
	first, last := k.n/128, k.n/128
	if k.kind == doWrite && len(k.data) > 0 {
		last = (k.n + len(k.data) - 1) / 128
	}
	for index := first; index <= last && 128*index < len(row); index++ {
		var s api.Sector
		copy(s[:], row[128*index:])
		h[had{k.i, index, s}]++
	}
}

// sound holds an image to what must stand on a disk at any time.
func sound(t *testing.T, image []api.Sector, inodes int, h history) {
	t.Helper()
	d, e := disk.From(image)
	if e != api.OK {
		t.Fatalf("From: %d", e)
	}
	seen := map[int]int{}
	point := func(i, n int) {
		if n <= inodes || n >= len(image) {
			t.Errorf("inode %d leads to %d, which is no data sector", i, n)
		}
		if other := seen[n]; other != 0 {
			t.Errorf("sector %d stands in %d and in %d", n, other, i)
		}
		seen[n] = i
	}
	for i := 1; i <= inodes; i++ {
		x, e := layout.ReadInode(image[i])
		if e != api.OK {
			t.Errorf("inode %d is none: %d", i, e)
			continue
		}
		tables, e := blocks.Tables(d, x)
		if e != api.OK {
			t.Errorf("inode %d: tables: %d", i, e)
		}
		for _, n := range tables {
			point(i, n)
		}
		spots, e := blocks.Spots(d, x)
		if e != api.OK {
			t.Errorf("inode %d: spots: %d", i, e)
		}
		for _, s := range spots {
			point(i, s.Sector)
			if s.Sector < len(image) && h[had{i, s.Index, image[s.Sector]}] == 0 {
				t.Errorf("block %d of inode %d has %v, which it never had", s.Index, i, image[s.Sector])
			}
		}
	}
}

// play plays deeds till the power goes behind so many writes, and tells how many there were.
func play(t *testing.T, seed uint32, left int) int {
	t.Helper()
	next := steps(seed + 900)
	sectors := 40 + next(40)
	r, x, h, last := allTaken(t, sectors, 12), rows{}, history{}, 1
	if left >= 0 {
		r.d.Arm(left)
	}
	for range 45 {
		k := someOfFiles(next, x, &last, 12, sectors)
		e := k.of(r)
		if e != api.ErrSpaceBlocks {
			x.change(k)
			h.note(k, x[k.i])
		}
		if e == api.ErrDiskDown {
			break
		}
		if e != api.OK && e != api.ErrSpaceBlocks {
			t.Errorf("%+v: %d", k, e)
		}
	}
	sound(t, r.d.Image(), 12, h)
	if t.Failed() {
		t.Fatalf("seed %d, %d writes", seed, left)
	}
	return r.d.Writes()
}

func TestWhatStandsOnTheDiskAtEveryWrite(t *testing.T) { // P10.12
	for seed := range uint32(60) {
		for left := range play(t, seed, -1) {
			play(t, seed, left)
		}
	}
}

// safe holds the disk to just the inode that the cache has, its tables and blocks.
func (r *rig) safe(i int) {
	r.Helper()
	d, _ := disk.From(r.d.Image())
	c, e := cache.New(d)
	r.is("cache.New", e, api.OK)
	x := r.inode(i)
	y, e := layout.ReadInode(d.Image()[i])
	if x != y || e != api.OK {
		r.Errorf("the disk has the inode %+v, %d; want %+v", y, e, x)
	}
	tables, _ := blocks.Tables(r.c, x)
	spots, _ := blocks.Spots(r.c, x)
	onDisk, e := blocks.Tables(c, y)
	if !slices.Equal(onDisk, tables) || e != api.OK {
		r.Errorf("the disk has the tables %v, %d; want %v", onDisk, e, tables)
	}
	spotsOnDisk, e := blocks.Spots(c, y)
	if !slices.Equal(spotsOnDisk, spots) || e != api.OK {
		r.Errorf("the disk has the blocks %v, %d; want %v", spotsOnDisk, e, spots)
	}
	for _, s := range spots {
		want, _ := r.c.Read(s.Sector)
		if got, e := d.Read(s.Sector); got != want || e != api.OK {
			r.Errorf("the disk has other bytes of block %d", s.Index)
		}
	}
}

func TestSafe(t *testing.T) { // P10.13
	fsyncs, cuts := 0, 0
	for seed := range uint32(100) {
		next := steps(seed + 1300)
		sectors := 40 + next(60)
		r, p := rigOf(t, sectors, 4), plainOf(t, sectors, 4)
		for range 80 {
			k := some(next, p, sectors)
			shorter := k.kind == doTruncate && k.n < p.made[k.i].size
			e := k.of(r)
			r.is("it", e, k.ofPlain(p))
			if k.kind == doFsync || shorter {
				r.safe(k.i)
			}
			if k.kind == doFsync {
				fsyncs++
			}
			if shorter {
				cuts++
			}
			if t.Failed() {
				t.Fatalf("seed %d: %+v", seed, k)
			}
		}
	}
	if fsyncs < 50 || cuts < 50 {
		t.Errorf("%d of Fsync, %d of Truncate: too few to tell", fsyncs, cuts)
	}
}
