package share_test

import (
	"slices"
	"testing"

	"breakwater/api"
	"breakwater/fs"
	"breakwater/share"
)

func TestNoFileSystem(t *testing.T) { // P18.1: ErrArg, and nil
	var none *fs.FS
	for range 3 {
		if s, e := share.New(none); s != nil || e != api.ErrArg {
			t.Errorf("New(nil): %v, %d", s, e)
		}
	}
}

func TestNilShared(t *testing.T) { // R1: ErrArg ahead of all else, also of one that no New has given
	fromNil, _ := share.New(nil)
	for _, s := range []*share.Shared{nil, fromNil, {}} {
		for kind := -1; kind <= 16; kind++ {
			if a := s.Do(api.Op{Kind: kind, Path: "/"}); !equal(a, refused(api.ErrArg)) {
				t.Errorf("Do of kind %d: %+v", kind, a)
			}
		}
		for _, ops := range [][]api.Op{nil, {stat("/")}, {syncAll()}, {{}}, slices.Repeat([]api.Op{stat("/")}, 64), slices.Repeat([]api.Op{stat("/")}, 65)} {
			if l, e := s.Each(ops...); len(l) > 0 || e != api.ErrArg {
				t.Errorf("Each of %d: %v, %d", len(ops), l, e)
			}
		}
	}
}

func TestOneThatWasNotMounted(t *testing.T) { // R1: nothing panics, by Do or by goroutines; the next call is answered likewise
	s := shared(t, &fs.FS{})
	for range 2 {
		for kind := -1; kind <= 16; kind++ {
			s.Do(api.Op{Kind: kind, Path: "/a"})
		}
		l, e := s.Each(stat("/"), stat("no path"), list("/"), read("/a", 0, 1))
		if e != api.OK || len(l) != 4 {
			t.Fatalf("Each: %v, %d", l, e)
		}
		for k, want := range []api.Errno{api.ErrArg, api.ErrPathForm, api.ErrArg, api.ErrArg} {
			if !equal(l[k], refused(want)) {
				t.Errorf("at place %d: %+v, want %d", k, l[k], want)
			}
		}
	}
}

func TestNewChangesNothing(t *testing.T) { // P18.1: f, shared: all that it was told before is there
	d := madeDisk(t, 40, 8)
	f := mounted(t, d)
	byDo(f, create("/a"), write("/a", 0, "xyz"), mkdir("/d"), syncAll(), write("/a", 1, "new"), mkdir("/d/e"))
	before := told(f)
	room, dirty, writes, image := f.Room(), f.Dirty(), d.Writes(), d.Image()
	s := shared(t, f)
	if told(s) != before {
		t.Errorf("it tells\n%swant\n%s", told(s), before)
	}
	if f.Room() != room || !slices.Equal(f.Dirty(), dirty) || d.Writes() != writes || !slices.Equal(d.Image(), image) {
		t.Error("something has changed")
	}
}

func TestADeadOneIsShared(t *testing.T) { // P18.1: New asks nothing of it; Do and Each tell that it is dead
	d := madeDisk(t, 40, 8)
	f := mounted(t, d)
	f.Do(mkdir("/d"))
	d.Arm(0)
	f.Do(syncAll())
	r := &rig{t, d, f, shared(t, f)}
	r.is(stat("/"), refused(api.ErrFSDead))
	r.tells([]api.Op{stat("/"), list("/")}, refused(api.ErrFSDead), refused(api.ErrFSDead))
}

func TestTwoThatAreShared(t *testing.T) { // R5: side by side they do not meet, also where the one is the other's copy, or is dead
	a := begin(t)
	a.done(syncAll())
	b := rigOn(t, a.d.Copy())
	a.done(write("/a", 0, "A"), unlink("/a"), create("/b"))
	b.done(write("/a", 0, "B"), mkdir("/d/x"))
	ops := []api.Op{stat("/a"), read("/a", 0, 9), list("/"), list("/d")}
	a.tells(ops, refused(api.ErrDirNone), refused(api.ErrDirNone), api.Answer{Entries: []api.Entry{aFile("b", 2), aDir("d", 3)}}, api.Answer{})
	want := []api.Answer{{Stat: api.Stat{Ino: 2, Kind: api.KindFile, Links: 1, Size: 3, Blocks: 1}}, {Data: []byte("Byz")}, {Entries: []api.Entry{aFile("a", 2), aDir("d", 3)}}, {Entries: []api.Entry{aDir("x", 4)}}}
	b.tells(ops, want...)
	a.arm(0)
	a.is(syncAll(), refused(api.ErrDiskDown))
	b.tells(ops, want...)
	a.tells(ops, slices.Repeat([]api.Answer{refused(api.ErrFSDead)}, 4)...)
	b.done(syncAll())
	if told(rigOn(t, b.d.Copy()).s) != told(b.s) {
		t.Error("what was synced is not there")
	}
}
