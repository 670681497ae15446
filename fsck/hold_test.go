package fsck_test

import (
	"slices"
	"testing"

	"breakwater/api"
	"breakwater/disk"
	"breakwater/fsck"
	"breakwater/look"
)

// same tells whether two reports are one.
func same(a, b api.Report) bool {
	return slices.Equal(a.Want, b.Want) && slices.Equal(a.Write, b.Write) && slices.Equal(a.Inodes, b.Inodes) && slices.Equal(a.Blocks, b.Blocks)
}

// copyOf is a report in memory of its own.
func copyOf(r api.Report) api.Report {
	return api.Report{Want: slices.Clone(r.Want), Write: slices.Clone(r.Write), Inodes: slices.Clone(r.Inodes), Blocks: slices.Clone(r.Blocks)}
}

// behind is an image with the first k of a report's Write as its Want has them.
func behind(image []api.Sector, r api.Report, k int) []api.Sector {
	now := slices.Clone(image)
	for _, n := range r.Write[:k] {
		now[n] = r.Want[n]
	}
	return now
}

// down is a disk whose power is off, and of which nothing was written.
func down(t *testing.T, d *disk.Disk) *disk.Disk {
	t.Helper()
	arm(t, d, 0)
	if e := d.Write(0, api.Sector{}); e != api.ErrDiskDown {
		t.Fatalf("disk.Write: %d", e)
	}
	return d
}

func arm(t *testing.T, d *disk.Disk, writes int) {
	t.Helper()
	if e := d.Arm(writes); e != api.OK {
		t.Fatalf("Arm(%d): %d", writes, e)
	}
}

// refused holds a Run to its refusal, twice, by which nothing is done to the disk (P13.1, P13.2, P13.5).
func refused(t *testing.T, what string, d *disk.Disk, want api.Errno) {
	t.Helper()
	image, writes, off := d.Image(), d.Writes(), d.Down()
	for range 2 {
		r, e := fsck.Run(d)
		if e != want || len(r.Want)+len(r.Write)+len(r.Inodes)+len(r.Blocks) > 0 {
			t.Errorf("%s: %d, %d sectors, %v, %v, %v; want %d alone", what, e, len(r.Want), r.Write, r.Inodes, r.Blocks, want)
		}
		if d.Writes() != writes || d.Down() != off || !slices.Equal(d.Image(), image) {
			t.Errorf("%s: the disk is another: %d writes", what, d.Writes()-writes)
		}
	}
}

// cut holds a Run that is armed with fewer writes than there are to write (P13.1), and restarts the disk.
func cut(t *testing.T, d *disk.Disk, image []api.Sector, want api.Report, done, k int) {
	t.Helper()
	arm(t, d, k)
	r, e := fsck.Run(d)
	if e != api.ErrDiskDown || !same(r, api.Report{}) || !d.Down() {
		t.Fatalf("armed with %d behind %v: %d, %v", k, want.Write[:done], e, r.Write)
	}
	if d.Writes() != done+k || !slices.Equal(d.Image(), behind(image, want, done+k)) {
		t.Fatalf("armed with %d behind %v: %d writes, or others", k, want.Write[:done], d.Writes())
	}
	d.Restart()
}

// ends holds a Run that is answered OK to writing what is left, and nothing else (P13.1 to P13.4).
func ends(t *testing.T, d *disk.Disk, want api.Report, done int) api.Report {
	t.Helper()
	r, e := fsck.Run(d)
	if e != api.OK || !same(r, api.Report{Want: want.Want, Write: want.Write[done:], Inodes: want.Inodes, Blocks: want.Blocks}) {
		t.Fatalf("behind %v: %d, Write %v, Inodes %v, Blocks %v; want %v, %v, %v", want.Write[:done], e, r.Write, r.Inodes, r.Blocks, want.Write[done:], want.Inodes, want.Blocks)
	}
	if d.Writes() != len(want.Write) || d.Down() || !slices.Equal(d.Image(), want.Want) {
		t.Fatalf("behind %v: %d writes, want %d, or another image", want.Write[:done], d.Writes(), len(want.Write))
	}
	return r
}

// settled holds a disk that was put right to being well-formed, and to being left alone (P13.3).
func settled(t *testing.T, d *disk.Disk, want api.Report) {
	t.Helper()
	if why := ill(d.Image()); why != "" {
		t.Errorf("not well-formed: %s", why)
	}
	arm(t, d, 0)
	ends(t, d, want, len(want.Write))
	d.Restart()
}

// hold holds a Run of any image to all promises: at once, armed with each number of writes, and again behind each cut.
func hold(t *testing.T, image []api.Sector) api.Report {
	t.Helper()
	want, e := look.Look(image)
	if e != api.OK {
		refused(t, "an image that is refused", diskOf(t, image), e)
		return want
	}
	if ill(image) == "" && len(want.Write) > 0 {
		t.Errorf("well-formed, and to be written: %v", want.Write)
	}
	d := diskOf(t, image)
	ends(t, d, want, 0)
	settled(t, d, want)
	for k := range want.Write {
		d := diskOf(t, image)
		cut(t, d, image, want, 0, k)
		ends(t, d, want, k)
		settled(t, d, want)
	}
	return want
}
