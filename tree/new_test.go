package tree_test

import (
	"slices"
	"testing"

	"breakwater/api"
	"breakwater/disk"
	"breakwater/fsck"
	"breakwater/layout"
	"breakwater/tree"
)

// noTree holds New to an error, and to writing nothing.
func noTree(t *testing.T, what string, d *disk.Disk, r api.Report, want api.Errno) {
	t.Helper()
	writes := 0
	if d != nil {
		writes = d.Writes()
	}
	if x, e := tree.New(d, r); x != nil || e != want {
		t.Errorf("%s: %v, %d; want %d", what, x, e, want)
	}
	if d != nil && d.Writes() != writes {
		t.Errorf("%s: something was written", what)
	}
}

// spoilt is a sector that is neither an inode's nor a slot's.
func spoilt() api.Sector { return api.Sector{127: 1} }

func TestNoDisk(t *testing.T) { // P14.1: ahead of all else
	noTree(t, "no disk", nil, api.Report{Inodes: []int{1}}, api.ErrArg)
	noTree(t, "nothing", nil, api.Report{}, api.ErrArg)
	noTree(t, "no disk, and inodes that are none", nil, api.Report{Inodes: []int{1, 1}}, api.ErrArg)
}

func TestADiskWhosePowerIsOff(t *testing.T) { // P14.1: ahead of what stands there
	zeros, _ := disk.New(40)
	for _, d := range []*disk.Disk{diskOf(t, 40, 4), zeros} {
		d.Arm(0)
		d.Write(39, api.Sector{})
		noTree(t, "power off", d, api.Report{Inodes: []int{1}}, api.ErrDiskDown)
		noTree(t, "power off, and nothing in use", d, api.Report{}, api.ErrDiskDown)
	}
}

func TestFirstSectorsThatAreRefused(t *testing.T) { // P14.1: ahead of what the space refuses
	super, _ := layout.SuperSector(api.Super{Sectors: 40, Inodes: 4})
	for _, sectors := range []int{1, 7, 39, 41, 4096} { // it tells another size
		d, _ := disk.New(sectors)
		write(t, d, 0, super)
		noTree(t, "another size", d, api.Report{Inodes: []int{1}}, api.ErrLayoutSuper)
		noTree(t, "another size", d, api.Report{Inodes: []int{1, 1}}, api.ErrLayoutSuper)
	}
	other := super
	other[127] = 1
	for _, s := range []api.Sector{{}, other} {
		d := diskOf(t, 40, 4)
		write(t, d, 0, s)
		noTree(t, "no first sector", d, api.Report{Inodes: []int{1}}, api.ErrLayoutSuper)
		noTree(t, "no first sector", d, api.Report{Inodes: []int{99}}, api.ErrLayoutSuper)
	}
}

func TestWhatTheSpaceRefuses(t *testing.T) { // P14.1: ahead of the root's being told
	d := diskOf(t, 40, 4)
	for _, list := range [][]int{{1, 1}, {1, 0}, {1, 5}, {1, -1}, {5}, {2, 2}, {1, minInt}, {1, maxInt}, {1, 1<<32 + 2}} {
		noTree(t, "inodes", d, api.Report{Inodes: list}, api.ErrSpacePlace)
	}
	for _, list := range [][]int{{4}, {40}, {0}, {-1}, {5, 5}, {5, 6, 41}, {minInt}, {maxInt}} {
		noTree(t, "blocks", d, api.Report{Inodes: []int{1}, Blocks: list}, api.ErrSpacePlace)
		noTree(t, "blocks, and no root", d, api.Report{Blocks: list}, api.ErrSpacePlace)
	}
}

func TestTheRootIsNotTold(t *testing.T) { // P14.1: ahead of what stands in inodes and slots
	d := diskOf(t, 40, 4)
	noTree(t, "nothing", d, api.Report{}, api.ErrArg)
	noTree(t, "another one", d, api.Report{Inodes: []int{2}}, api.ErrArg)
	write(t, d, 1, spoilt())
	write(t, d, 2, spoilt())
	noTree(t, "no inodes", d, api.Report{}, api.ErrArg)
	noTree(t, "no inodes", d, api.Report{Inodes: []int{2, 3}}, api.ErrArg)
}

func TestInodesAndSlotsThatAreNone(t *testing.T) { // P14.1: in the report's order, ahead of what is no report of that disk
	x := drawn{1: {of(2, "a"), of(3, "d")}, 3: {of(4, "b"), of(4, "c")}} // slots at 5 to 8
	d, r := x.on(t, 40, 4)
	write(t, d, 4, spoilt())
	noTree(t, "inode 4", d, r, api.ErrLayoutInode)
	noTree(t, "inode 4 of no whole report", d, api.Report{Inodes: []int{1, 4}, Blocks: r.Blocks}, api.ErrLayoutInode)
	noTree(t, "inode 4 is not told", d, api.Report{Inodes: []int{1, 2, 3}, Blocks: r.Blocks}, api.ErrArg)
	write(t, d, 7, spoilt())
	noTree(t, "a slot of 3, ahead of inode 4", d, r, api.ErrLayoutSlot)
	noTree(t, "inode 4, ahead of a slot of 3", d, api.Report{Inodes: []int{4, 3, 2, 1}, Blocks: r.Blocks}, api.ErrLayoutInode)
	write(t, d, 1, inodeSector(t, api.Inode{Kind: api.KindDir, Links: 1, Size: 256, Direct: [12]int{5, 4000}}))
	noTree(t, "a pointer that leads nowhere", d, r, api.ErrCachePlace)
	noTree(t, "a slot of 3, ahead of that", d, api.Report{Inodes: []int{3, 1, 2, 4}, Blocks: r.Blocks}, api.ErrLayoutSlot)
	write(t, d, 1, spoilt())
	noTree(t, "the root", d, r, api.ErrLayoutInode)
}

func TestReportsThatAreNoneOfThatDisk(t *testing.T) { // P14.1
	for _, c := range []struct {
		what string
		x    drawn
		told []int // the inodes of the report; none: all
	}{
		{"an inode in use without a place", drawn{1: {}}, []int{1, 2}},
		{"one of several without a place", drawn{1: {of(2, "a")}}, []int{1, 2, 3}},
		{"a directory in use without a place", drawn{1: {}, 3: {}}, nil},
		{"a place of an inode that is not in use", drawn{1: {of(2, "a")}}, []int{1}},
		{"one of several places so", drawn{1: {of(2, "a"), of(3, "b"), of(2, "c")}}, []int{1, 2}},
		{"a place of an inode that is not there", drawn{1: {of(5, "a")}}, []int{1}},
		{"a place of the last inode that may be", drawn{1: {of(512, "a")}}, []int{1}},
		{"the root is named in itself", drawn{1: {of(1, "a")}}, nil},
		{"the root is named elsewhere", drawn{1: {of(2, "d")}, 2: {of(1, "a")}}, nil},
		{"a directory with two places in one", drawn{1: {of(2, "d"), of(2, "e")}, 2: {}}, nil},
		{"a directory with two places in two", drawn{1: {of(2, "d"), of(3, "e")}, 2: {of(4, "f")}, 3: {of(4, "g")}, 4: {}}, nil},
		{"a directory in itself", drawn{1: {}, 2: {of(2, "d")}}, nil},
		{"a ring of two", drawn{1: {}, 2: {of(3, "d")}, 3: {of(2, "e")}}, nil},
		{"a ring of three", drawn{1: {}, 2: {of(3, "d")}, 3: {of(4, "e")}, 4: {of(2, "f")}}, nil},
		{"a directory that hangs at a ring", drawn{1: {}, 2: {of(3, "d"), of(4, "f")}, 3: {of(2, "e")}, 4: {}}, nil},
		{"a file that hangs at a ring", drawn{1: {}, 2: {of(3, "d"), of(4, "f")}, 3: {of(2, "e")}}, nil},
		{"a ring with a way from the root", drawn{1: {of(2, "d")}, 2: {of(3, "d")}, 3: {of(2, "e")}}, nil},
		{"a directory that is not told, but what it has is", drawn{1: {of(2, "d")}, 2: {of(3, "a")}}, []int{1, 3}},
	} {
		d, r := c.x.on(t, 40, 4)
		if c.told != nil {
			r.Inodes = c.told
		}
		noTree(t, c.what, d, r, api.ErrArg)
	}
}

func TestARootThatIsNoDirectory(t *testing.T) { // P14.1
	d := diskOf(t, 40, 4)
	write(t, d, 1, inodeSector(t, api.Inode{Kind: api.KindFile, Links: 1}))
	noTree(t, "a file", d, api.Report{Inodes: []int{1}}, api.ErrArg)
	noTree(t, "a file, and another inode", d, api.Report{Inodes: []int{1, 2}}, api.ErrArg)
	write(t, d, 1, api.Sector{})
	noTree(t, "nothing", d, api.Report{Inodes: []int{1}}, api.ErrArg)
}

func TestReportsOfThatDisk(t *testing.T) { // P14.1: in any order, with files of one place and of several
	x := drawn{1: {of(3, "d"), of(2, "a"), {}, of(2, "b")}, 3: {of(4, "e"), {}, of(2, "c")}, 4: {}}
	d, r := x.on(t, 40, 4)
	for _, order := range [][]int{{1, 2, 3, 4}, {4, 3, 2, 1}, {3, 1, 4, 2}} {
		y := rigOn(t, d.Copy(), order, r.Blocks)
		y.list(1, aFile("a", 2), aFile("b", 2), aDir("d", 3))
		y.list(3, aFile("c", 2), aDir("e", 4))
		y.list(4)
		y.hasLinks(2, 3)
		y.noRename(1, "d", 4, "x", api.ErrTreeLoop)
		y.unlink(3, "c")
		y.hasLinks(2, 2)
		y.unlink(1, "a")
		y.hasLinks(2, 1)
		y.unlink(1, "b")
		y.gone(2)
		y.rmdir(3, "e")
		y.rmdir(1, "d")
		y.list(1)
		y.room(31, 3, 3) // the root has 4 slots; those of 3 are free later
	}
}

func TestWhatNewTakesFromAReport(t *testing.T) { // P14.1: Inodes and Blocks are in use, all else is free; Want and Write are not looked at
	d := diskOf(t, 40, 4)
	r := api.Report{Want: []api.Sector{spoilt()}, Write: []int{1, 77, -3}, Inodes: []int{1}, Blocks: []int{6, 5, 39}}
	x, e := tree.New(d, r)
	if x == nil || e != api.OK {
		t.Fatalf("New: %d", e)
	}
	y := &rig{t, d, x}
	y.room(32, 0, 3)
	y.file(1, "a", 2)
	y.edges(2, 7, 7, 1)
	if !slices.Equal(r.Inodes, []int{1}) || !slices.Equal(r.Blocks, []int{6, 5, 39}) || !slices.Equal(r.Write, []int{1, 77, -3}) || r.Want[0] != spoilt() {
		t.Errorf("what was handed in is another: %+v", r)
	}
}

func TestNewKeepsNoReport(t *testing.T) { // R4
	x := drawn{1: {of(3, "d"), of(2, "a")}, 3: {}}
	d, r := x.on(t, 40, 4)
	y := rigOn(t, d, r.Inodes, r.Blocks)
	for k := range r.Inodes {
		r.Inodes[k] = 4
	}
	clear(r.Blocks)
	y.list(1, aFile("a", 2), aDir("d", 3))
	y.room(33, 0, 1)
	y.file(3, "b", 4)
	y.edges(4, 7, 7, 3)
}

func TestNewChangesNothing(t *testing.T) { // P14.1: it writes nothing, and nothing is dirty
	x := drawn{1: {of(3, "d"), of(2, "a")}, 3: {}}
	d, r := x.on(t, 40, 4)
	d.Arm(0)
	before := d.Image()
	y := rigOn(t, d, r.Inodes, r.Blocks)
	y.dirty()
	y.edges()
	if !slices.Equal(d.Image(), before) || d.Down() {
		t.Error("something was written")
	}
}

func TestNewBehindFsck(t *testing.T) { // P14.1: of a disk that was put right, whatever stood there
	for seed := range 300 {
		next := steps(uint32(seed))
		d := diskOf(t, 30, 6)
		for range 1 + next(40) {
			n := 2 + next(28)
			switch next(4) {
			case 0:
				write(t, d, 1+next(6), inodeSector(t, api.Inode{Kind: 1 + next(2), Links: next(3), Size: 128 * next(4), Direct: [12]int{7 + next(23), 7 + next(23), 7 + next(23)}}))
			case 1:
				write(t, d, n, spoilt())
			default:
				write(t, d, n, slotSector(t, 1+next(7), count(next(3))))
			}
		}
		r, e := fsck.Run(d)
		if e != api.OK {
			continue // the root is none
		}
		writes := d.Writes()
		x, e := tree.New(d, r)
		if x == nil || e != api.OK {
			t.Fatalf("seed %d: New: %d", seed, e)
		}
		y := &rig{t, d, x}
		for _, i := range r.Inodes {
			s, e := x.Stat(i)
			y.is("Stat", e, api.OK)
			if s.Links != int(r.Want[i][1]) || d.Writes() != writes {
				t.Errorf("seed %d: inode %d: %+v", seed, i, s)
			}
		}
	}
}

func TestAnInodeThatIsNamedButFree(t *testing.T) { // P14.1: a report's inodes are in use, whatever stands there; what is promised is promised of disks that were put right, but all calls end
	x := drawn{1: {of(2, "a"), of(3, "d")}, 3: {of(2, "b")}}
	d, r := x.on(t, 40, 4)
	write(t, d, 2, api.Sector{})
	y := rigOn(t, d, r.Inodes, r.Blocks)
	y.list(1, api.Entry{Name: "a", Ino: 2}, aDir("d", 3))
	everyCall(y)
}

// everyCall asks all of them with some of all arguments: they end.
func everyCall(r *rig) {
	names := append(badNames(), "a", "b", "d", "new", count(0))
	for _, d := range []int{1, 2, 3, 4, 5, 0, -1, maxInt} {
		r.x.List(d)
		r.x.Stat(d)
		for _, name := range names {
			r.x.Find(d, name)
			r.x.Make(d, name, api.KindDir, 1)
			r.x.Make(d, name+"f", api.KindFile, 1)
			for _, i := range []int{1, 2, 3, 4, -1} {
				r.x.Link(i, d, name+"l")
				r.x.Rename(d, name, i, name+"r")
				r.x.Rename(i, name+"l", d, name)
			}
			r.x.Unlink(d, name)
			r.x.Rmdir(d, name)
		}
	}
}
