package fs_test

import (
	"slices"
	"testing"

	"breakwater/api"
	"breakwater/fs"
)

// spoil writes over a list, and over its spare room.
func spoil[T any](list []T, with T) {
	list = list[:cap(list)]
	for k := range list {
		list[k] = with
	}
}

func TestWhatIsHandedIn(t *testing.T) { // P15.5, R4: Data is not changed and not kept
	r := begin(t)
	r.made(create("/a"), 2)
	data := append(make([]byte, 0, 300), "some bytes"...)
	for k := range 20 {
		r.ok(write("/a", 128*k+120, data))
		if string(data) != "some bytes" || slices.Max(data[:300][10:]) != 0 {
			t.Fatalf("Data has changed: %q", data)
		}
	}
	before := r.state()
	spoil(data, 99)
	if r.state() != before {
		t.Error("Data is kept")
	}
}

func TestWhatComesOut(t *testing.T) { // P15.5, R4: new memory, its spare room too
	r := wood(t)
	r.ok(write("/a", 100, sevens(300)))
	before := r.state()
	for range 2 {
		spoil(r.f.Do(read("/a", 0, 400)).Data, 99)
		spoil(r.f.Do(read("/a", 0, 128)).Data, 99)
		spoil(r.f.Do(list("/")).Entries, api.Entry{Name: "x", Ino: 9})
		spoil(r.f.Dirty(), 5)
		if r.state() != before {
			t.Fatal("something that came out is kept")
		}
	}
	x, y := r.f.Do(read("/a", 0, 400)).Data, r.f.Do(read("/a", 0, 400)).Data
	spoil(x, 99)
	if slices.Max(y) != 7 {
		t.Error("two answers share memory")
	}
}

func TestTheReportIsTheirs(t *testing.T) { // P15.5: written over, it changes nothing; no two of its lists share memory
	r := used(t)
	f, report, e := fs.Mount(r.d)
	if e != api.OK {
		t.Fatalf("Mount: %d", e)
	}
	g := &rig{t, r.d, f}
	before := g.state()
	inodes := slices.Clone(report.Inodes)
	spoil(report.Want, noise(1))
	spoil(report.Blocks, 1)
	spoil(report.Write, 1)
	if !slices.Equal(report.Inodes, inodes) {
		t.Error("two lists of a report share memory")
	}
	spoil(report.Inodes, 1)
	if g.state() != before {
		t.Error("the report is kept")
	}
	if a := f.Do(create("/new")); a.Stat.Ino != 5 {
		t.Errorf("Create: %+v", a)
	}
}

func TestSideBySide(t *testing.T) { // P15.5, R6: file systems on two disks do not meet
	for seed := range 20 {
		a, b := gameOf(t, seed), gameOf(t, seed+3)
		alone := gameOf(t, seed)
		for range 60 {
			a.step()
			b.step()
			alone.step()
		}
		a.holds(a.m)
		b.holds(b.m)
		if a.state() != alone.state() {
			t.Fatalf("seed %d: what is done side by side is another", seed)
		}
		b.arm(0)
		for b.step() {
		}
		b.isDead()
		a.holds(a.m)
		a.ok(sync())
	}
}

func TestTheSameAgain(t *testing.T) { // R5: the same operations, the same answers, sectors and writes
	for seed := range 10 {
		a, b := gameOf(t, seed), gameOf(t, seed)
		for range 80 {
			a.step()
			b.step()
		}
		if a.state() != b.state() {
			t.Fatalf("seed %d: another one", seed)
		}
	}
}
