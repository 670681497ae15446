package front_test

import (
	"slices"
	"strings"
	"testing"

	"breakwater/api"
	"breakwater/disk"
	"breakwater/front"
	"breakwater/fs"
)

// holdNew holds New to what Mount does to a disk that is alike: the error, what is written, and what is told then.
func holdNew(t *testing.T, d *disk.Disk, want api.Errno) {
	t.Helper()
	other := d.Copy()
	mount, _, e := fs.Mount(other)
	if e != want {
		t.Fatalf("Mount: %d, want %d", e, want)
	}
	f, e := front.New(d)
	if e != want || (f != nil) != (want == api.OK) {
		t.Fatalf("New: %v, %d, want %d", f, e, want)
	}
	if !slices.Equal(d.Image(), other.Image()) || d.Writes() != other.Writes() || d.Down() != other.Down() {
		t.Error("New has written another thing than Mount")
	}
	if f != nil && told(&rig{t, d, f}) != told(mount) {
		t.Error("another thing is told than by the file system")
	}
}

func TestNoDisk(t *testing.T) { // P19.3: ErrArg, and nil
	var none *disk.Disk
	for range 3 {
		if f, e := front.New(none); f != nil || e != api.ErrArg {
			t.Errorf("New(nil): %v, %d", f, e)
		}
	}
}

func TestNoFileSystem(t *testing.T) { // P19.3: Mount's error, and nil; nothing is written
	for _, n := range []int{1, 7, 8, 40, 4096} {
		d, _ := disk.New(n)
		holdNew(t, d, api.ErrLookSuper)
	}
	d := madeDisk(t, 40, 8)
	d.Write(api.Root, api.Sector{})
	holdNew(t, d, api.ErrLookRoot)
	d.Write(0, api.Sector{5})
	holdNew(t, d, api.ErrLookSuper)
}

func TestADiskThatIsDown(t *testing.T) { // P19.3: ErrDiskDown, and nil; behind a Restart there is a front
	d := madeDisk(t, 40, 8)
	d.Arm(0)
	d.Write(0, api.Sector{})
	holdNew(t, d, api.ErrDiskDown)
	d.Restart()
	holdNew(t, d, api.OK)
}

// halfDone is a disk on which a Mount has several sectors to write.
func halfDone(t *testing.T) *disk.Disk {
	t.Helper()
	d := madeDisk(t, 60, 12)
	f := mounted(t, d)
	done(t, f, create("/a"), mkdir("/d"), create("/d/b"), create("/d/c"), syncAll(), link("/a", "/x"), link("/a", "/d/y"), link("/d/b", "/z"), link("/d/c", "/q"))
	for range 9 { // all inodes, and no slot
		for i := 1; i <= 12; i++ {
			f.Do(flush(i))
		}
	}
	return d
}

func TestWhatIsPutRight(t *testing.T) { // P19.3: over the file system that Mount found, which is put right, also where the power goes meanwhile
	d := halfDone(t)
	probe := d.Copy()
	before := probe.Writes()
	mounted(t, probe)
	writes := probe.Writes() - before
	if writes < 2 {
		t.Fatalf("%d writes of the Mount", writes)
	}
	for armed := range writes {
		x := d.Copy()
		x.Arm(armed)
		holdNew(t, x, api.ErrDiskDown)
		x.Restart()
		holdNew(t, x, api.OK)
	}
	holdNew(t, d, api.OK)
	holdNew(t, d, api.OK)
}

func TestSpoiltImages(t *testing.T) { // P19.3: any image: as Mount has it
	next := steps(3)
	codes := map[api.Errno]int{}
	for range 300 {
		d := halfDone(t)
		for range 1 + next(4) {
			n := next(20)
			s, _ := d.Read(n)
			s[next(40)] = byte(next(256))
			d.Write(n, s)
		}
		_, _, e := fs.Mount(d.Copy())
		codes[e]++
		holdNew(t, d, e)
	}
	for _, e := range []api.Errno{api.OK, api.ErrLookSuper, api.ErrLookRoot} {
		if codes[e] == 0 {
			t.Errorf("%d was never answered", e)
		}
	}
}

func TestNilFront(t *testing.T) { // R1: ErrArg ahead of all else, also of one that no New has given
	fromNil, _ := front.New(nil)
	want := encodedAnswer(refused(api.ErrArg))
	for _, f := range []*front.Front{nil, fromNil, {}} {
		for _, b := range []string{"", "\x0c", "\xff", encoded(stat("/")), encoded(create("/a")), strings.Repeat("\x00", 9)} {
			if got := f.Do([]byte(b)); string(got) != want {
				t.Errorf("Do of %x: %x", b, got)
			}
		}
	}
}
