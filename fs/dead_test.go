package fs_test

import (
	"slices"
	"testing"

	"breakwater/api"
	"breakwater/fs"
)

// busy is a file system with little room and much that is dirty, in which each kind has to write at once, if it ever has to.
func busy(t *testing.T) *rig {
	t.Helper()
	r := rigOf(t, 24, 7) // 16 data sectors
	r.made(create("/a"), 2)
	r.made(mkdir("/d"), 3)
	r.made(mkdir("/e"), 4)
	r.made(create("/b"), 5)
	r.made(create("/full"), 6)
	r.ok(write("/a", 0, sevens(300)), write("/full", 0, sevens(600)), sync())
	r.ok(write("/a", 5, sevens(7)), unlink("/full"))
	r.made(create("/d/c"), 6)
	r.ok(write("/b", 0, sevens(128))) // 16 less 5 slots, 3 and 1 blocks, one slot: 6, of which 5 are free later
	r.room(6, 5, 1)
	return r
}

// cases are operations that write at once when there is little room, and one that asks of what lies on the disk alone.
func cases() []api.Op {
	return []api.Op{
		write("/b", 128, sevens(300)), // a Sync is made within
		write("/d/c", 0, sevens(6*128)),
		truncate("/a", 7),
		truncate("/a", 0),
		rename("/d", "/e/d"),
		rename("/e", "/f"),
		fsync("/a"),
		fsync("/b"),
		sync(),
	}
}

func TestThePowerGoesInEachKind(t *testing.T) { // P15.3, P15.10: at each of its writes: ErrDiskDown; then ErrFSDead; a Mount behind it
	for _, o := range cases() {
		whole := busy(t)
		n := whole.d.Writes()
		if a := whole.f.Do(o); a.Code != api.OK {
			t.Fatalf("%s: %d", say(o), a.Code)
		}
		writes := whole.d.Writes() - n
		if writes == 0 {
			t.Errorf("%s: nothing was written", say(o))
		}
		for armed := range writes {
			r := busy(t)
			r.arm(armed)
			r.writes(armed, func() { r.is(o, api.Answer{Code: api.ErrDiskDown}) })
			r.isDead()
			r = r.again()
			if why := unsound(r.d.Image(), false); why != "" {
				t.Errorf("%s, behind %d writes: %s", say(o), armed, why)
			}
			if a := r.f.Do(stat("/a")); a.Code != api.OK || a.Stat.Ino != 2 {
				t.Errorf("%s, behind %d writes: /a is %+v", say(o), armed, a)
			}
		}
		r := busy(t)
		r.arm(writes)
		r.writes(writes, func() { r.ok(o) })
		if r.d.Down() {
			t.Errorf("%s: more than %d writes", say(o), writes)
		}
	}
}

// isDead holds a file system to answering ErrFSDead and writing nothing, with the power and without it (P15.10).
func (r *rig) isDead() {
	r.Helper()
	r.writes(0, func() {
		r.Helper()
		for kind := -1; kind <= 16; kind++ {
			r.is(api.Op{Kind: kind, Path: "/"}, api.Answer{Code: api.ErrFSDead})
		}
		r.f.Room()
		r.f.Dirty()
		r.d.Restart()
		for kind := -1; kind <= 16; kind++ {
			r.is(api.Op{Kind: kind, Path: "/n0", To: "no path", Made: -1}, api.Answer{Code: api.ErrFSDead})
		}
		for _, o := range []api.Op{sync(), stat("/"), list("/"), create("/new"), flush(1), fsync("/a"), truncate("/a", 0), rename("/d", "/new")} {
			r.is(o, api.Answer{Code: api.ErrFSDead})
		}
		for n := range r.d.Len() {
			r.is(flush(n), api.Answer{Code: api.ErrFSDead})
		}
		r.f.Room()
		r.f.Dirty()
	})
}

func TestFlushThatMeetsTheEnd(t *testing.T) { // P15.3: a Flush of what may land: ErrDiskDown, not landed; of what need not be written it is OK yet
	r := begin(t)
	r.made(create("/a"), 2)
	r.arm(0)
	r.waits(1, 9, 0, 30, -1, 40)
	r.is(flush(2), api.Answer{Code: api.ErrDiskDown})
	r.isDead()
	r = r.again()
	r.lists("/")
}

func TestQuestionsOfALostDisk(t *testing.T) { // P15.3: whoever finds out first that the power is off: ErrDiskDown; the file system is dead by it
	for _, o := range []api.Op{stat("/"), list("/"), read("/a", 0, 9), create("/x"), write("/a", 0, sevens(1)), unlink("/a"), fsync("/a"), truncate("/a", 0), rename("/a", "/x"), link("/a", "/x"), mkdir("/x"), rmdir("/d")} {
		r := used(t)
		r.arm(0)
		r.d.Write(0, api.Sector{})
		r.is(o, api.Answer{Code: api.ErrDiskDown})
		r.isDead()
	}
}

func TestFormsOfALostDisk(t *testing.T) { // P15.3: ErrFSOp and a path's error need no disk; it lives by them
	r := used(t)
	before := told(r.f)
	r.arm(0)
	r.d.Write(0, api.Sector{})
	r.is(api.Op{Kind: 15}, api.Answer{Code: api.ErrFSOp})
	r.is(stat("a"), api.Answer{Code: api.ErrPathForm})
	r.is(create("/"), api.Answer{Code: api.ErrTreeRoot})
	r.ok(sync(), flush(3), flush(-1))
	r.d.Restart() // nobody has written
	if told(r.f) != before {
		t.Error("it does not live")
	}
}

func TestOtherErrorsDoNotKill(t *testing.T) { // P15.3: a file system lives behind each of them
	r := wood(t)
	for _, o := range []api.Op{{}, stat("x"), stat("/.."), stat("/n"), stat("/a/x"), create("/a"), create("/"), unlink("/d"), rmdir("/d"), rename("/d", "/d/x"), write("/a", -1, nil), write("/a", 0, sevens(99999)), flush(-1)} {
		r.f.Do(o)
	}
	r.ok(sync())
	r.lists("/", aFile("a", 2), aDir("d", 3), aDir("g", 7))
}

func TestTheDeadAndTheNewOne(t *testing.T) { // P15.10: a dead one does not come back, and does not touch what is mounted behind it
	r := begin(t)
	r.made(create("/a"), 2)
	r.ok(sync())
	r.arm(0)
	r.made(mkdir("/z"), 3)
	r.is(sync(), api.Answer{Code: api.ErrDiskDown})
	r.is(stat("/"), api.Answer{Code: api.ErrFSDead})
	g := r.again()
	g.no(stat("/z"), api.ErrDirNone)
	g.made(create("/b"), 3)
	g.ok(sync())
	r.isDead()
	g.lists("/", aFile("a", 2), aFile("b", 3))
	before := g.d.Image()
	if _, _, e := fs.Mount(g.d); e != api.OK || !slices.Equal(before, g.d.Image()) {
		t.Errorf("Mount: %d", e)
	}
}
