package fs_test

import (
	"fmt"
	"slices"
	"testing"

	"breakwater/api"
	"breakwater/disk"
	"breakwater/fs"
	"breakwater/layout"
)

// noise is a sector that is nothing.
func noise(n int) api.Sector {
	var s api.Sector
	for k := range s {
		s[k] = byte(200 + n + k)
	}
	return s
}

// noisy is a disk of such sectors.
func noisy(t *testing.T, sectors int) *disk.Disk {
	t.Helper()
	image := make([]api.Sector, sectors)
	for n := range image {
		image[n] = noise(n)
	}
	return diskWith(t, image)
}

// parts are what Mkfs writes.
func parts(t *testing.T, sectors, inodes int) (super, root api.Sector) {
	t.Helper()
	super, e := layout.SuperSector(api.Super{Sectors: sectors, Inodes: inodes})
	if e != api.OK {
		t.Fatalf("SuperSector: %d", e)
	}
	root, e = layout.InodeSector(api.Inode{Kind: api.KindDir, Links: 1})
	if e != api.OK {
		t.Fatalf("InodeSector: %d", e)
	}
	return super, root
}

func TestMkfsRefuses(t *testing.T) { // P15.1: no disk, and inodes that a super may not have; nothing is written
	for _, n := range []int{8, 0, -1, maxInt} {
		if e := fs.Mkfs(nil, n); e != api.ErrArg {
			t.Errorf("Mkfs(nil, %d): %d", n, e)
		}
	}
	for _, sectors := range []int{1, 2, 7, 8, 40, 513, 514, 515, 4096} {
		d := noisy(t, sectors)
		before := d.Image()
		for _, n := range []int{0, -1, sectors - 1, sectors, 513, 514, 4096, 1<<32 + 1, minInt, maxInt} {
			if e := fs.Mkfs(d, n); e != api.ErrLayoutSuper {
				t.Errorf("%d sectors: Mkfs(%d): %d", sectors, n, e)
			}
		}
		if d.Writes() != 0 || !slices.Equal(d.Image(), before) {
			t.Errorf("%d sectors: something was written", sectors)
		}
	}
	for n := range 9 { // a disk that is too small for any
		if e := fs.Mkfs(newDisk(t, 7), n); e != api.ErrLayoutSuper {
			t.Errorf("7 sectors: Mkfs(%d): %d", n, e)
		}
	}
}

func TestMkfsOfADiskThatIsDown(t *testing.T) { // P15.1: the disk's error goes up, behind ErrLayoutSuper
	d := noisy(t, 40)
	d.Arm(0)
	if e := d.Write(0, api.Sector{}); e != api.ErrDiskDown {
		t.Fatalf("Write: %d", e)
	}
	if e := fs.Mkfs(d, 8); e != api.ErrDiskDown {
		t.Errorf("Mkfs: %d", e)
	}
	if e := fs.Mkfs(d, 39); e != api.ErrLayoutSuper {
		t.Errorf("Mkfs: %d", e)
	}
	if e := fs.Mkfs(d, 1); e != api.ErrDiskDown || d.Writes() != 0 {
		t.Errorf("Mkfs: %d, %d writes", e, d.Writes())
	}
}

// shapes are sizes that a super may have, the least and the most among them.
func shapes() []api.Super {
	return []api.Super{{Sectors: 8, Inodes: 1}, {Sectors: 8, Inodes: 2}, {Sectors: 8, Inodes: 6}, {Sectors: 40, Inodes: 8}, {Sectors: 40, Inodes: 38}, {Sectors: 514, Inodes: 512}, {Sectors: 4096, Inodes: 1}, {Sectors: 4096, Inodes: 512}}
}

func TestMkfsWrites(t *testing.T) { // P15.1: the inodes' sectors and the first one, no data sector
	for _, x := range shapes() {
		d := noisy(t, x.Sectors)
		want := d.Image()
		clear(want[2 : x.Inodes+1])
		want[0], want[1] = parts(t, x.Sectors, x.Inodes)
		if e := fs.Mkfs(d, x.Inodes); e != api.OK {
			t.Errorf("%+v: %d", x, e)
		}
		if !slices.Equal(d.Image(), want) || d.Writes() != x.Inodes+1 {
			t.Errorf("%+v: another image, or %d writes", x, d.Writes())
		}
	}
}

func TestMkfsInItsOrder(t *testing.T) { // P15.1: cut off at each write it has written 2 to inodes, rising, then 1, then 0
	for _, inodes := range []int{1, 2, 5, 38} {
		d := noisy(t, 40)
		want := d.Image()
		var order []int
		for i := 2; i <= inodes; i++ {
			order = append(order, i)
		}
		order = append(order, 1, 0)
		super, root := parts(t, 40, inodes)
		for k := range order {
			one := d.Copy()
			one.Arm(k)
			if e := fs.Mkfs(one, inodes); e != api.ErrDiskDown || !slices.Equal(one.Image(), want) || one.Writes() != k {
				t.Errorf("%d inodes, cut off behind %d writes: %d, or another image", inodes, k, e)
			}
			one.Restart()
			if e := fs.Mkfs(one, inodes); e != api.OK {
				t.Errorf("anew: %d", e)
			}
			isEmpty(t, one, api.Super{Sectors: 40, Inodes: inodes})
			want[order[k]] = api.Sector{}
			switch order[k] {
			case 0:
				want[0] = super
			case 1:
				want[1] = root
			}
		}
	}
}

// isEmpty holds a Mount of a disk to writing nothing, and to finding nothing but the root (P15.6).
func isEmpty(t *testing.T, d *disk.Disk, x api.Super) {
	t.Helper()
	before, n := d.Image(), d.Writes()
	f, r, e := fs.Mount(d)
	if e != api.OK {
		t.Fatalf("%+v: Mount: %d", x, e)
	}
	if d.Writes() != n || len(r.Write) > 0 || !slices.Equal(r.Want, before) || !slices.Equal(r.Inodes, []int{1}) || len(r.Blocks) > 0 {
		t.Errorf("%+v: Mount has written %v, or tells what is not: %v, %v", x, r.Write, r.Inodes, r.Blocks)
	}
	g := &rig{t, d, f}
	g.lists("/")
	g.stats("/", api.Stat{Ino: 1, Kind: api.KindDir, Links: 1})
	g.room(x.Sectors-1-x.Inodes, 0, x.Inodes-1)
	g.dirty()
}

func TestMade(t *testing.T) { // P15.6: of all sizes, and over whatever there was
	for _, x := range shapes() {
		for name, d := range map[string]*disk.Disk{"zeros": newDisk(t, x.Sectors), "noise": noisy(t, x.Sectors)} {
			if e := fs.Mkfs(d, x.Inodes); e != api.OK {
				t.Fatalf("%+v, %s: %d", x, name, e)
			}
			isEmpty(t, d, x)
		}
	}
}

// used is a file system that has something of all.
func used(t *testing.T) *rig {
	t.Helper()
	r := begin(t)
	r.made(create("/a"), 2)
	r.made(mkdir("/d"), 3)
	r.made(create("/d/b"), 4)
	r.ok(write("/a", 1500, sevens(200)), write("/d/b", 3, sevens(5)), link("/a", "/d/c"), sync())
	return r
}

func TestMkfsOverAUsedOne(t *testing.T) { // P15.1, P15.6: nothing of what was is found; cut off at each write it is made anew
	for _, inodes := range []int{1, 4, 8, 20, 38} {
		r := used(t)
		if e := fs.Mkfs(r.d, inodes); e != api.OK {
			t.Fatalf("Mkfs: %d", e)
		}
		isEmpty(t, r.d, api.Super{Sectors: 40, Inodes: inodes})
		for k := range inodes + 1 {
			r := used(t)
			r.arm(k)
			if e := fs.Mkfs(r.d, inodes); e != api.ErrDiskDown {
				t.Fatalf("Mkfs, cut off behind %d writes: %d", k, e)
			}
			r.d.Restart()
			if f, _, e := fs.Mount(r.d.Copy()); (e == api.OK) != (f != nil) {
				t.Errorf("Mount of what is half made: %d", e)
			}
			if e := fs.Mkfs(r.d, inodes); e != api.OK {
				t.Fatalf("Mkfs: %d", e)
			}
			isEmpty(t, r.d, api.Super{Sectors: 40, Inodes: inodes})
		}
	}
}

func TestMadeIsThere(t *testing.T) { // P15.1: an arming that Mkfs just keeps to is left
	d := newDisk(t, 40)
	d.Arm(9)
	if e := fs.Mkfs(d, 8); e != api.OK || d.Down() {
		t.Errorf("Mkfs: %d", e)
	}
	if e := d.Write(20, noise(1)); e != api.ErrDiskDown {
		t.Errorf("Write: %d", e)
	}
	if f, r, e := fs.Mount(d); f != nil || e != api.ErrDiskDown || fmt.Sprint(r) != fmt.Sprint(api.Report{}) {
		t.Errorf("Mount: %d", e)
	}
}
