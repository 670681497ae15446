package fsck_test

import (
	"slices"
	"sync"
	"testing"

	"breakwater/api"
	"breakwater/disk"
	"breakwater/fsck"
	"breakwater/layout"
	"breakwater/look"
)

func TestNoDisk(t *testing.T) { // P13.1, R1
	if r, e := fsck.Run(nil); e != api.ErrArg || !same(r, api.Report{}) {
		t.Errorf("nil: %d, %+v", e, r)
	}
	// What nobody made has no sectors, and so no first one.
	if r, e := fsck.Run(new(disk.Disk)); e != api.ErrLookSuper || !same(r, api.Report{}) {
		t.Errorf("no sectors: %d, %+v", e, r)
	}
}

func TestThePowerIsOff(t *testing.T) { // P13.1: ahead of what the image would be refused for
	spoilt := small(t, root())
	spoilt.image[0][0] = 'x'
	for _, c := range []struct {
		what string
		d    *draft
		then api.Errno
	}{
		{"to be written", hello(t), api.OK}, {"well-formed", small(t, root()), api.OK}, {"no first sector", spoilt, api.ErrLookSuper},
		{"no root", draftOf(t, 16, 4), api.ErrLookRoot}, {"one sector", &draft{t, make([]api.Sector, 1)}, api.ErrLookSuper},
	} {
		d := down(t, c.d.disk())
		refused(t, c.what+", the power is off", d, api.ErrDiskDown)
		d.Restart()
		if c.then != api.OK {
			refused(t, c.what+", restarted", d, c.then)
			continue
		}
		if _, e := fsck.Run(d); e != api.OK {
			t.Errorf("%s, restarted: %d", c.what, e)
		}
	}
}

func TestFirstSectorsThatAreNone(t *testing.T) { // P13.1, P13.5
	for _, sectors := range list(1, 7, 8, 16, 4096) {
		refused(t, "zeros", (&draft{t, make([]api.Sector, sectors)}).disk(), api.ErrLookSuper)
	}
	d := hello(t)
	d.image = d.image[:7]
	refused(t, "7 sectors", d.disk(), api.ErrLookSuper)
	for _, sectors := range list(15, 17) {
		d := hello(t)
		d.image[0] = draftOf(t, sectors, 4).image[0]
		refused(t, "of another size", d.disk(), api.ErrLookSuper)
	}
	for at := range 128 {
		d := hello(t)
		d.image[0][at] ^= 0x10
		refused(t, "a byte of the first sector", d.disk(), api.ErrLookSuper)
	}
	both := draftOf(t, 16, 4)
	both.image[0][127] = 1
	refused(t, "no root either", both.disk(), api.ErrLookSuper)
}

func TestRootsThatAreNone(t *testing.T) { // P13.1, P13.5
	refused(t, "free", draftOf(t, 16, 4).disk(), api.ErrLookRoot)
	refused(t, "a file", small(t, file(0)).disk(), api.ErrLookRoot)
	for at, with := range map[int]byte{0: 3, 1: 101, 2: 1, 3: 1, 4: 1, 7: 1, 15: 255, 72: 1, 127: 1} {
		d := hello(t)
		d.image[1][at] = with
		refused(t, "a spoilt root", d.disk(), api.ErrLookRoot)
	}
}

func TestARefusalLeavesTheArming(t *testing.T) { // P13.2, P13.5
	for _, writes := range list(0, 1, 2) {
		d := draftOf(t, 16, 4).disk()
		arm(t, d, writes)
		refused(t, "armed", d, api.ErrLookRoot)
		left(t, d, writes)
	}
}

// left holds a disk to being armed with so many writes.
func left(t *testing.T, d *disk.Disk, writes int) {
	t.Helper()
	for k := range writes {
		if e := d.Write(d.Len()-1, api.Sector{}); e != api.OK {
			t.Fatalf("armed with %d: write %d: %d", writes, k, e)
		}
	}
	if e := d.Write(d.Len()-1, api.Sector{}); e != api.ErrDiskDown || !d.Down() {
		t.Errorf("armed with %d: one more: %d", writes, e)
	}
}

// runs holds a Run of an image to what it tells, and whatever hold holds.
func (d *draft) runs(what string, write, inodes, blocks []int) *disk.Disk {
	d.Helper()
	on := d.disk()
	r, e := fsck.Run(on)
	if e != api.OK || !slices.Equal(r.Write, write) || !slices.Equal(r.Inodes, inodes) || !slices.Equal(r.Blocks, blocks) {
		d.Fatalf("%s: %d, Write %v, Inodes %v, Blocks %v; want %v, %v, %v", what, e, r.Write, r.Inodes, r.Blocks, write, inodes, blocks)
	}
	if on.Writes() != len(write) || on.Down() {
		d.Errorf("%s: %d writes, want %d", what, on.Writes(), len(write))
	}
	for n, s := range on.Image() {
		if (s != d.image[n]) != slices.Contains(write, n) {
			d.Errorf("%s: sector %d", what, n)
		}
	}
	hold(d.T, d.image)
	return on
}

func TestTheExamples(t *testing.T) { // P13.1, P13.3
	small(t, root()).runs("an empty root", nil, list(1), nil)
	d := hello(t)
	on := d.runs("hello", list(1, 6), list(1, 2), list(5, 6))
	image := on.Image()
	if x, e := layout.ReadInode(image[1]); e != api.OK || x != root(5) {
		t.Errorf("the root is %+v, %d", x, e)
	}
	if image[6] != (api.Sector{'h', 'e', 'l'}) || image[5] != d.image[5] || image[2] != d.image[2] {
		t.Errorf("sector 6 is %q", image[6][:8])
	}
	if r, e := fsck.Run(on); e != api.OK || len(r.Write) > 0 || on.Writes() != 2 {
		t.Errorf("again: %d, %v, %d writes", e, r.Write, on.Writes())
	}
}

func TestTheExampleThatIsArmed(t *testing.T) { // P13.1, P13.4
	d := hello(t)
	on := d.disk()
	arm(t, on, 1)
	if r, e := fsck.Run(on); e != api.ErrDiskDown || !same(r, api.Report{}) || on.Writes() != 1 {
		t.Errorf("%d, %v, %d writes", e, r.Write, on.Writes())
	}
	if image := on.Image(); image[1][1] != 1 || image[6] != d.image[6] {
		t.Errorf("%d links, %q", image[1][1], image[6][:8])
	}
	on.Restart()
	if r, e := fsck.Run(on); e != api.OK || !slices.Equal(r.Write, list(6)) || on.Writes() != 2 {
		t.Errorf("restarted: %d, %v, %d writes", e, r.Write, on.Writes())
	}
}

func TestOneSectorOfEachRow(t *testing.T) { // P13.1
	d := small(t, root(5))
	d.slot(5, 9, "a")
	d.runs("a slot", list(5), list(1), list(5))
	d.slot(5, 2, "a")
	x := file(1920)
	x.Single = 7
	d.inode(2, x)
	d.table(7, api.Pointers{8, 7, 99, 9})
	on := d.runs("a table", list(7), list(1, 2), list(5, 7, 8))
	if p := layout.ReadPointers(on.Image()[7]); p != (api.Pointers{8}) {
		t.Errorf("a table: %v", p)
	}
	d = small(t, linked(root(5), 7))
	d.runs("the root", list(1), list(1), list(5))
	d = small(t, root())
	d.inode(4, file(3, 6))
	on = d.runs("an inode that nobody names", list(4), list(1), nil)
	if on.Image()[4] != (api.Sector{}) {
		t.Errorf("an inode that nobody names: %v", on.Image()[4])
	}
	d = hello(t)
	d.inode(1, root(5))
	d.runs("a file's block", list(6), list(1, 2), list(5, 6))
}

func TestManySectors(t *testing.T) { // P13.1: of all three rows, each of them behind the last one of the row ahead
	mixed(t).runs("mixed", list(11, 13, 30, 33, 3, 6, 7, 8, 10, 34), list(1, 3, 4, 6), list(9, 10, 11, 12, 13, 20, 21, 30, 31, 32, 33, 34))
}

func TestTheSmallestImages(t *testing.T) { // P13.1, P13.3
	for inodes := 1; inodes <= 6; inodes++ {
		d := draftOf(t, 8, inodes)
		d.inode(1, root(7))
		d.runs("8 sectors", nil, list(1), list(7))
		d.inode(1, linked(root(7), 0))
		d.slot(7, 1, "a")
		d.runs("8 sectors, spoilt", list(7, 1), list(1), list(7))
	}
}

func TestTheGreatestImage(t *testing.T) { // P13.1, P13.3, P13.4
	d, write := great(t)
	if len(write) < 600 {
		t.Fatalf("%d sectors", len(write))
	}
	want, e := look.Look(d.image)
	if e != api.OK || !slices.Equal(want.Write, write) {
		t.Fatalf("%d, %v", e, want.Write)
	}
	on := d.disk()
	ends(t, on, want, 0)
	settled(t, on, want)
	for _, k := range list(0, 1, 170, 171, 341, 342, len(write)-1) {
		on := d.disk()
		cut(t, on, d.image, want, 0, k)
		ends(t, on, want, k)
	}
	arm(t, on, 5)
	for range 3 {
		ends(t, on, want, len(want.Write))
	}
	left(t, on, 5)
}

func TestArmed(t *testing.T) { // P13.1, P13.2: Run uses up as many writes as it does, and no more
	for _, d := range []*draft{small(t, root()), hello(t), mixed(t)} {
		want, _ := look.Look(d.image)
		all := len(want.Write)
		for writes := range all + 4 {
			on := d.disk()
			if writes < all {
				cut(t, on, d.image, want, 0, writes)
				continue
			}
			arm(t, on, writes)
			ends(t, on, want, 0)
			left(t, on, writes-all)
		}
	}
}

func TestWritesOfBefore(t *testing.T) { // P13.2: they are counted still
	d := mixed(t)
	on := d.disk()
	for range 5 {
		on.Write(39, api.Sector{1})
	}
	arm(t, on, 3)
	if _, e := fsck.Run(on); e != api.ErrDiskDown || on.Writes() != 8 {
		t.Errorf("%d, %d writes", e, on.Writes())
	}
	on.Restart()
	if _, e := fsck.Run(on); e != api.OK || on.Writes() != 15 || on.Image()[39] != (api.Sector{1}) {
		t.Errorf("%d, %d writes", e, on.Writes())
	}
}

// scribble writes over all that a report has, its spare room too.
func scribble(r api.Report) {
	for _, l := range [][]int{r.Write, r.Inodes, r.Blocks} {
		l = l[:cap(l)]
		for i := range l {
			l[i] = -1 - i
		}
	}
	want := r.Want[:cap(r.Want)]
	for n := range want {
		want[n] = api.Sector{5: 55}
	}
}

func TestWhatComesOutIsNewMemory(t *testing.T) { // P13.2, R4
	for _, d := range []*draft{small(t, root()), small(t, root(5)), hello(t), mixed(t)} {
		want, _ := look.Look(d.image)
		on := d.disk()
		scribble(ends(t, on, want, 0))
		if !slices.Equal(on.Image(), want.Want) {
			t.Fatal("the disk is another when the report is written over")
		}
		second := ends(t, on, want, len(want.Write))
		kept := copyOf(second)
		scribble(ends(t, on, want, len(want.Write)))
		for n := range on.Len() {
			on.Write(n, api.Sector{7: 77})
		}
		if !same(second, kept) {
			t.Error("a report is another when another one, or the disk, is written over")
		}
	}
}

func TestListsOfOneReportShareNothing(t *testing.T) { // R4
	lists := func(r *api.Report) []*[]int { return []*[]int{&r.Write, &r.Inodes, &r.Blocks} }
	want, _ := look.Look(mixed(t).image)
	for at := range 3 {
		r := ends(t, mixed(t).disk(), want, 0)
		l := *lists(&r)[at]
		for i := range l[:cap(l)] {
			l[:cap(l)][i] = -7
		}
		*lists(&r)[at] = *lists(&want)[at]
		if !same(r, want) {
			t.Errorf("list %d shares memory", at)
		}
	}
}

func TestTwoDisks(t *testing.T) { // R5: neither one meets the other
	d := mixed(t)
	want, _ := look.Look(d.image)
	first := d.disk()
	second, third := first.Copy(), hello(t).disk()
	cut(t, first, d.image, want, 0, 4)
	if second.Writes() != 0 || !slices.Equal(second.Image(), d.image) || second.Down() {
		t.Error("a copy is another behind a Run of the first one")
	}
	half := first.Copy()
	ends(t, second, want, 0)
	ends(t, first, want, 4)
	ends(t, half, want, 4)
	if third.Writes() != 0 || !slices.Equal(third.Image(), hello(t).image) {
		t.Error("another disk was written")
	}
}

func TestSideBySide(t *testing.T) { // R5
	images := [][]api.Sector{mixed(t).image, hello(t).image, small(t, root(5)).image, anyImage(7), anyImage(8), make([]api.Sector, 9)}
	got := make([]api.Report, 8*len(images))
	errs := make([]api.Errno, len(got))
	disks := make([]*disk.Disk, len(got))
	var wait sync.WaitGroup
	for i := range got {
		disks[i] = diskOf(t, images[i%len(images)])
		wait.Go(func() { got[i], errs[i] = fsck.Run(disks[i]) })
	}
	wait.Wait()
	for i, r := range got {
		want, e := look.Look(images[i%len(images)])
		if errs[i] != e || !same(r, want) || disks[i].Writes() != len(want.Write) {
			t.Errorf("Run %d is another beside others", i)
		}
	}
}
