package fs_test

import (
	"fmt"
	"slices"
	"testing"

	"breakwater/api"
	"breakwater/disk"
	"breakwater/fs"
	"breakwater/fsck"
)

// equalReports tells whether two say the same.
func equalReports(a, b api.Report) bool {
	return slices.Equal(a.Want, b.Want) && slices.Equal(a.Write, b.Write) && slices.Equal(a.Inodes, b.Inodes) && slices.Equal(a.Blocks, b.Blocks)
}

func TestMountRefuses(t *testing.T) { // P15.2: no disk; fsck.Run's errors; nothing is written
	if f, r, e := fs.Mount(nil); f != nil || e != api.ErrArg || !equalReports(r, api.Report{}) {
		t.Errorf("Mount(nil): %d", e)
	}
	noRoot := newDisk(t, 40)
	super, _ := parts(t, 40, 8)
	noRoot.Write(0, super)
	aFileAsRoot := used(t)
	s, _ := aFileAsRoot.d.Read(2)
	aFileAsRoot.d.Write(1, s)
	otherSize := newDisk(t, 41)
	otherSize.Write(0, super)
	down := used(t)
	down.arm(0)
	down.d.Write(0, api.Sector{})
	for name, x := range map[string]struct {
		d    *disk.Disk
		want api.Errno
	}{
		"zeros":         {newDisk(t, 40), api.ErrLookSuper},
		"one sector":    {newDisk(t, 1), api.ErrLookSuper},
		"seven":         {newDisk(t, 7), api.ErrLookSuper},
		"noise":         {noisy(t, 40), api.ErrLookSuper},
		"another size":  {otherSize, api.ErrLookSuper},
		"no root":       {noRoot, api.ErrLookRoot},
		"a file's root": {aFileAsRoot.d, api.ErrLookRoot},
		"no power":      {down.d, api.ErrDiskDown},
	} {
		before, n := x.d.Image(), x.d.Writes()
		f, r, e := fs.Mount(x.d)
		if f != nil || e != x.want || !equalReports(r, api.Report{}) {
			t.Errorf("%s: %d, want %d", name, e, x.want)
		}
		if x.d.Writes() != n || !slices.Equal(x.d.Image(), before) {
			t.Errorf("%s: something was written", name)
		}
	}
}

func TestMountOfAUsedOne(t *testing.T) { // P15.2, P15.7: the tree of that disk; the report; nothing is written
	r := used(t)
	g := rigOn(t, r.d.Copy())
	if a, b := told(r.f), told(g.f); a != b {
		t.Errorf("Mount tells\n%s\nit was\n%s", b, a)
	}
	if g.d.Writes() != r.d.Writes() || r.f.Room() != g.f.Room() {
		t.Errorf("Mount has written, or another Room: %+v", g.f.Room())
	}
	_, report, e := fs.Mount(r.d)
	if e != api.OK || !slices.Equal(report.Inodes, []int{1, 2, 3, 4}) || len(report.Write) > 0 || !slices.Equal(report.Want, r.d.Image()) || len(report.Blocks) != 31-r.f.Room().Blocks {
		t.Errorf("Mount: %+v, %d", report.Inodes, e)
	}
}

// images are such as a file system leaves, spoilt a little or much.
func images(t *testing.T, next func(int) int, seed int) []api.Sector {
	t.Helper()
	g := gameOf(t, seed)
	for range 20 + next(60) {
		g.step()
	}
	all := g.d.Image()
	for range next(6) {
		n, k := 1+next(len(all)-1), 1+next(len(all)-1)
		switch next(5) {
		case 0:
			all[n] = all[k]
		case 1:
			all[n] = noise(k)
		case 2:
			all[n][next(128)] = byte(next(256))
		case 3:
			all[1+next(g.m.inodes)] = all[1+next(g.m.inodes)]
		default:
			all[n] = api.Sector{}
		}
	}
	return all
}

func TestMountOfAnyImage(t *testing.T) { // P15.2, P15.8, W6: what fsck.Run tells; the image is well then, once more nothing is written, and the file system does as one in memory
	mounted := 0
	for seed := range 300 {
		next := steps(uint32(700 + seed))
		all := images(t, next, seed)
		d, plain := diskWith(t, all), diskWith(t, all)
		want, wrong := fsck.Run(plain)
		f, r, e := fs.Mount(d)
		if e != wrong || !equalReports(r, want) || !slices.Equal(d.Image(), plain.Image()) || (f == nil) != (e != api.OK) {
			t.Fatalf("seed %d: Mount: %d; fsck.Run: %d", seed, e, wrong)
		}
		if e != api.OK {
			continue
		}
		mounted++
		n := d.Writes()
		if _, once, e := fs.Mount(d); e != api.OK || len(once.Write) > 0 || d.Writes() != n || !slices.Equal(once.Want, d.Image()) {
			t.Fatalf("seed %d: Mount once more: %d, %v", seed, e, once.Write)
		}
		m := memoryOn(t, d.Image())
		x := &rig{t, d, f}
		x.holds(m)
		p := &player{next: next, names: 5, made: 1000}
		for range 25 {
			x.both(m, p.some(m, f))
		}
		x.holds(m)
	}
	if mounted < 250 {
		t.Errorf("only %d were mounted", mounted)
	}
}

func TestMountOfNoise(t *testing.T) { // P15.2, W6: sectors of whatever bytes, behind a first one that is one
	for seed := range 200 {
		next := steps(uint32(seed))
		sectors, inodes := 8+next(30), 1+next(6)
		all := make([]api.Sector, sectors)
		for n := range all {
			for k := range all[n] {
				if next(3) == 0 {
					all[n][k] = byte(next([]int{2, 12, 256}[next(3)]))
				}
			}
		}
		all[0], all[1] = parts(t, sectors, inodes)
		all[1][4] = 1
		plain := diskWith(t, all)
		want, wrong := fsck.Run(plain)
		d := diskWith(t, all)
		f, r, e := fs.Mount(d)
		if e != wrong || !equalReports(r, want) || !slices.Equal(d.Image(), plain.Image()) {
			t.Fatalf("seed %d: Mount: %d; fsck.Run: %d", seed, e, wrong)
		}
		if e == api.OK {
			(&rig{t, d, f}).holds(memoryOn(t, d.Image()))
		}
	}
}

func TestMountCutOff(t *testing.T) { // P15.2, W6: at each write: ErrDiskDown; mounted anew it comes to the same
	cuts := 0
	for seed := range 150 {
		all := images(t, steps(uint32(seed)), seed)
		whole := diskWith(t, all)
		f, r, e := fs.Mount(whole)
		if e != api.OK {
			continue
		}
		for k := range len(r.Write) {
			cuts++
			d := diskWith(t, all)
			d.Arm(k)
			if g, s, e := fs.Mount(d); g != nil || e != api.ErrDiskDown || !equalReports(s, api.Report{}) || d.Writes() != k {
				t.Fatalf("seed %d, cut off behind %d writes: %d", seed, k, e)
			}
			d.Restart()
			g, s, e := fs.Mount(d)
			if e != api.OK || !slices.Equal(s.Write, r.Write[k:]) || !slices.Equal(d.Image(), whole.Image()) || d.Writes() != len(r.Write) {
				t.Fatalf("seed %d, cut off behind %d writes, anew: %d, %v", seed, k, e, s.Write)
			}
			if told(f) != told(g) || f.Room() != g.Room() {
				t.Fatalf("seed %d, cut off behind %d writes: another tree", seed, k)
			}
		}
	}
	if cuts < 100 {
		t.Errorf("only %d cuts", cuts)
	}
}

func TestMountKeepsToAnArming(t *testing.T) { // P15.2: nothing is to be written, so a disk that is armed with 0 is mounted
	r := used(t)
	r.arm(0)
	g := rigOn(t, r.d)
	g.lists("/", aFile("a", 2), aDir("d", 3))
	if fmt.Sprint(g.f.Room()) != fmt.Sprint(r.f.Room()) || g.d.Down() {
		t.Errorf("Room: %+v", g.f.Room())
	}
}
