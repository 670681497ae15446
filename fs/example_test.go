package fs_test

import (
	"testing"

	"breakwater/api"
	"breakwater/fs"
)

func TestExamples(t *testing.T) { // P15.1 to P15.4: the chapter's table, line by line
	d := newDisk(t, 40)
	for _, x := range []struct {
		e, want api.Errno
	}{{fs.Mkfs(nil, 8), api.ErrArg}, {fs.Mkfs(d, 0), api.ErrLayoutSuper}, {fs.Mkfs(d, 39), api.ErrLayoutSuper}, {fs.Mkfs(d, 8), api.OK}} {
		if x.e != x.want {
			t.Errorf("Mkfs: %d, want %d", x.e, x.want)
		}
	}
	if n := d.Writes(); n != 9 {
		t.Errorf("%d writes", n)
	}
	r := rigOn(t, d)
	r.room(31, 0, 7)
	r.dirty()
	r.made(api.Op{Kind: api.OpCreate, Path: "/a", Made: 5}, 2)
	r.no(create("/a"), api.ErrDirThere)
	r.made(mkdir("/d"), 3)
	r.made(create("/d/b"), 4)
	r.no(create("/a/x"), api.ErrDirKind)
	r.no(create("/n/x"), api.ErrDirNone)
	r.no(create("/"), api.ErrTreeRoot)
	r.lists("/", aFile("a", 2), aDir("d", 3))
	r.no(list("/a"), api.ErrDirKind)
	r.stats("/", api.Stat{Ino: 1, Kind: api.KindDir, Links: 1, Size: 256, Blocks: 2})
	r.stats("/d", api.Stat{Ino: 3, Kind: api.KindDir, Links: 1, Size: 128, Blocks: 1})
	r.ok(write("/a", 130, []byte("xyz")))
	r.is(read("/a", 128, 99), api.Answer{Data: []byte("\x00\x00xyz")})
	r.no(write("/d", 0, []byte("x")), api.ErrFileKind)
	r.no(read("/d", 0, 1), api.ErrFileKind)
	r.ok(link("/a", "/d/c"))
	r.no(link("/d", "/e"), api.ErrFileKind)
	r.no(link("/a", "/"), api.ErrTreeRoot)
	r.no(link("/a", "/d/b"), api.ErrDirThere)
	r.stats("/d/c", api.Stat{Ino: 2, Kind: api.KindFile, Links: 2, Size: 133, Made: 5, Blocks: 1})
	r.ok(rename("/a", "/d/b"))
	r.lists("/", aDir("d", 3))
	r.no(unlink("/d"), api.ErrFileKind)
	r.ok(unlink("/d/b"))
	r.no(rmdir("/d"), api.ErrTreeFull)
	r.no(rmdir("/"), api.ErrTreeRoot)
	r.no(rename("/", "/x"), api.ErrTreeRoot)
	r.waits(9999, -1)
	r.flushAll(steps(1))
	r.ok(sync())
	r.dirty()
	r.no(fsync("/d"), api.ErrFileKind)
	r.ok(fsync("/d/c"))
	for _, o := range []api.Op{{}, {Kind: 15}, {Kind: api.OpStat, Path: "/", To: "x"}, {Kind: api.OpSync, Path: "/"}, {Kind: api.OpCreate, Path: "/z", Made: 1<<40 + 1}} {
		r.no(o, api.ErrFSOp)
	}
	r.no(stat("a"), api.ErrPathForm)
	r.arm(0)
	r.made(mkdir("/z"), 4)
	r.is(sync(), api.Answer{Code: api.ErrDiskDown})
	r.is(stat("/"), api.Answer{Code: api.ErrFSDead})
	r = r.again()
	r.no(stat("/z"), api.ErrDirNone)
}

func TestExamplesOfTheWhole(t *testing.T) { // P15.3, W1, W5, W7: DOC.md's examples that are not told elsewhere
	r := begin(t)
	r.made(api.Op{Kind: api.OpCreate, Path: "/a", Made: 7}, 2)
	r.writes(0, func() { r = r.again() })
	r.lists("/")
	r.made(create("/a"), 2)
	r.ok(write("/a", 1536, []byte{1}))
	r.stats("/a", api.Stat{Ino: 2, Kind: api.KindFile, Links: 1, Size: 1537, Blocks: 2})
	r.ok(truncate("/a", 0))
	r.room(30, 0, 6)

	r = begin(t)
	r.made(mkdir("/d"), 2)
	r.made(mkdir("/d/e"), 3)
	r.no(rename("/d", "/d/e/x"), api.ErrTreeLoop)
	r.no(rmdir("/d"), api.ErrTreeFull)
	r.no(unlink("/d"), api.ErrFileKind)
	r.no(create("/d/"), api.ErrPathForm)
	r.no(create("/d"), api.ErrDirThere)
	r.no(rmdir("/"), api.ErrTreeRoot)
}

// lossesOf does operations behind a beginning that has landed, with all dirty sectors landing in some order, and lets the power go at each write; what is then found is shown to look.
func lossesOf(t *testing.T, begin func() *rig, all []api.Op, look func(r *rig)) {
	t.Helper()
	for seed := range 60 {
		next := steps(uint32(seed))
		r := begin()
		r.ok(all...)
		for left := next(9); left > 0 && len(r.f.Dirty()) > 0; {
			dirty := r.f.Dirty()
			if r.f.Do(flush(dirty[next(len(dirty))])).Landed {
				left--
			}
		}
		look(r.again())
	}
}

func TestTheNamesOfALinkedFile(t *testing.T) { // W3: DOC.md's example 6
	found := map[int]int{}
	lossesOf(t, func() *rig {
		r := begin(t)
		r.made(create("/a"), 2)
		r.ok(link("/a", "/b"), sync())
		return r
	}, []api.Op{unlink("/a")}, func(r *rig) {
		links := 1
		if r.f.Do(stat("/a")).Code == api.OK {
			links = 2
		}
		found[links]++
		r.stats("/b", api.Stat{Ino: 2, Kind: api.KindFile, Links: links})
	})
	if found[1] == 0 || found[2] == 0 {
		t.Errorf("found: %v", found)
	}
}

func TestTheNamesOfAMovedFile(t *testing.T) { // W3: DOC.md's example 7
	found := map[string]int{}
	lossesOf(t, func() *rig {
		r := begin(t)
		r.made(mkdir("/d"), 2)
		r.made(create("/d/f"), 3)
		r.ok(sync())
		return r
	}, []api.Op{rename("/d/f", "/f"), rmdir("/d")}, func(r *rig) {
		names := ""
		for _, p := range []string{"/f", "/d", "/d/f"} {
			if r.f.Do(stat(p)).Code == api.OK {
				names += p + " "
			}
		}
		found[names]++
	})
	for names := range found {
		if names != "/f " && names != "/f /d " && names != "/d /d/f " && names != "/f /d /d/f " {
			t.Errorf("there are %s", names)
		}
	}
	if len(found) < 3 {
		t.Errorf("found: %v", found)
	}
}
