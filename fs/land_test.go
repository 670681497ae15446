package fs_test

import (
	"testing"

	"breakwater/api"
)

func TestFlush(t *testing.T) { // P15.3: what is no sector, what is not dirty, what must wait: nothing; what may land is written
	r := begin(t)
	r.made(create("/a"), 2)
	r.dirty(1, 2, 9)
	r.waits(9999, -1, 40, 41, minInt, maxInt, 1<<32+2, -1<<32+2) // none
	r.waits(0, 3, 8, 10, 39)                                     // not dirty
	r.waits(1, 9)                                                // the root's inode lands behind its slot, and that behind the inode that it names
	r.lands(2)
	r.waits(1, 2)
	r.lands(9)
	r.dirty(1)
	r.lands(1)
	r.dirty()
	r.waits(1, 2, 9, 0, 39)
	r = r.again()
	r.lists("/", aFile("a", 2))
}

func TestWhatHasNotLandedIsLost(t *testing.T) { // P15.3, P15.4: the power goes behind each landing
	for landed, there := range []bool{false, false, false, true} {
		r := begin(t)
		r.made(create("/a"), 2)
		r.lands([]int{2, 9, 1}[:landed]...)
		r = r.again()
		if there {
			r.lists("/", aFile("a", 2))
		} else {
			r.lists("/")
			r.room(31, 0, 7)
		}
	}
}

func TestSync(t *testing.T) { // P15.3, P15.7: all that is dirty is written, each once; nothing, if nothing is
	r := begin(t)
	r.writes(0, func() { r.ok(sync()) })
	r.made(create("/a"), 2)
	r.ok(write("/a", 0, sevens(200)))
	r.dirty(1, 2, 9, 10, 11)
	r.writes(5, func() { r.ok(sync()) })
	r.dirty()
	r.writes(0, func() { r.ok(sync(), sync()) })
}

func TestSafe(t *testing.T) { // P15.7, W5: behind a Sync, and questions, a Mount writes nothing and tells the same
	for seed := range 40 {
		g := gameOf(t, seed)
		for range 80 {
			g.step()
		}
		g.ok(sync())
		before := told(g.f)
		g.dirty()
		n := g.d.Writes()
		h := rigOn(t, g.d.Copy())
		if got := told(h.f); got != before || h.d.Writes() != n {
			t.Fatalf("seed %d: a Mount tells\n%s\nit was\n%s", seed, got, before)
		}
		if a, b := g.f.Room(), h.f.Room(); a != b || a.Later != 0 {
			t.Errorf("seed %d: Room: %+v, and behind a Mount %+v", seed, a, b)
		}
	}
}

func TestFsync(t *testing.T) { // P15.3: a file's own sectors are written, no others that need not; of a directory ErrFileKind
	r := begin(t)
	r.made(create("/a"), 2)
	r.made(create("/b"), 3)
	r.ok(sync(), write("/a", 0, []byte("a")), write("/b", 0, []byte("b")))
	r.no(fsync("/"), api.ErrFileKind)
	r.no(fsync("/n"), api.ErrDirNone)
	r.no(fsync("/a/x"), api.ErrDirKind)
	r.writes(2, func() { r.ok(fsync("/a")) })
	r.dirty(3, 12)
	r.writes(0, func() { r.ok(fsync("/a")) })
	r = r.again()
	r.has("/a", "a")
	r.has("/b", "")
}

func TestFsyncMakesNoName(t *testing.T) { // P15.3: what leads to the file need not have landed
	r := begin(t)
	r.made(create("/a"), 2)
	r.ok(write("/a", 0, []byte("a")), fsync("/a"))
	r.dirty(1, 9)
	r = r.again()
	r.lists("/")
	r.room(31, 0, 7)
}

func TestRoomAndDirtyChangeNothing(t *testing.T) { // P15.4: asked once or often, they tell the same, and all else does
	r := wood(t)
	r.ok(write("/a", 0, sevens(500)), unlink("/a"))
	r.made(create("/x"), 2)
	first := r.state()
	for range 3 {
		r.f.Room()
		r.f.Dirty()
	}
	if r.state() != first {
		t.Error("something has changed")
	}
	r.room(60-10-6+1-1, 4, 2)
}

func TestLaterComesWithItsSector(t *testing.T) { // P15.4: Room's Later are free when what pointed to them has landed
	r := begin(t)
	r.made(create("/a"), 2)
	r.ok(write("/a", 0, sevens(300)), sync(), unlink("/a"))
	r.room(30, 3, 7)
	r.dirty(2, 9)
	r.waits(2) // its slot must land first
	r.lands(9)
	r.room(30, 3, 7)
	r.lands(2)
	r.room(30, 0, 7)
}
