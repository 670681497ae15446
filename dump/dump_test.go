package dump_test

import (
	"slices"
	"strings"
	"testing"

	"breakwater/api"
	"breakwater/dump"
	"breakwater/fs"
)

func TestNoAsker(t *testing.T) { // P17.1, P17.2, R1: ErrArg ahead of all else, whatever the nodes are
	var none dump.Asker
	refuses(t, none, api.ErrArg)
	fills(t, none, 0, api.ErrArg)
	fills(t, none, 0, api.ErrArg, scriptNodes()...)
	fills(t, none, 0, api.ErrArg, api.Node{Kind: 3})
}

func TestDumpOfAnEmptyOne(t *testing.T) { // P17.1: the root has no node; its list is asked for, and nothing else
	for _, f := range empties(t, 8, 1) {
		x := &teller{Asker: f}
		tells(t, x)
		asked(t, x, list("/"))
	}
	for _, f := range empties(t, 40, 8) { // one whose slots were emptied is empty, too
		done(t, f, create("/a", 1), mkdir("/b", 2), create("/b/c", 3), unlink("/b/c"), rmdir("/b"), unlink("/a"))
		tells(t, f)
	}
}

func TestDirectoriesInDirectories(t *testing.T) { // P17.1: behind a directory's node those of its names, ahead of its neighbours; what is asked, and when
	for _, f := range empties(t, 60, 20) {
		done(t, f, create("/z", 9), mkdir("/b", 1), mkdir("/b/d", 2), create("/b/d/f", 3), mkdir("/b/d/e", 4), create("/b/c", 5), mkdir("/a", 6), create("/b/x", 7), mkdir("/b/d/e/g", 8))
		done(t, f, write("/b/x", 0, []byte("x")), write("/z", 3, []byte("zz")))
		x := &teller{Asker: f}
		tells(t, x,
			aDir("/a", 6),
			aDir("/b", 1),
			aFile("/b/c", 5, ""),
			aDir("/b/d", 2),
			aDir("/b/d/e", 4),
			aDir("/b/d/e/g", 8),
			aFile("/b/d/f", 3, ""),
			aFile("/b/x", 7, "x"),
			aFile("/z", 9, "\x00\x00\x00zz"),
		)
		asked(t, x,
			list("/"),
			stat("/a"), list("/a"),
			stat("/b"), list("/b"),
			stat("/b/c"),
			stat("/b/d"), list("/b/d"),
			stat("/b/d/e"), list("/b/d/e"),
			stat("/b/d/e/g"), list("/b/d/e/g"),
			stat("/b/d/f"),
			stat("/b/x"), read("/b/x", 0, 1),
			stat("/z"), read("/z", 0, 5),
		)
	}
}

func TestNamesByRisingBytes(t *testing.T) { // P17.1: names rise, not paths: what lies in a directory is ahead of its neighbours
	for _, f := range empties(t, 60, 20) {
		done(t, f, mkdir("/a", 1), create("/a/z", 2), create("/a b", 3), create("/a-b", 4), create("/\xff", 5), create("/B", 6), create("/aa", 7), create("/\x01", 8), create("/a/\x80", 9), create("/a.", 10), create("/é", 11))
		tells(t, f,
			aFile("/\x01", 8, ""), aFile("/B", 6, ""), aDir("/a", 1), aFile("/a/z", 2, ""), aFile("/a/\x80", 9, ""),
			aFile("/a b", 3, ""), aFile("/a-b", 4, ""), aFile("/a.", 10, ""), aFile("/aa", 7, ""), aFile("/é", 11, ""), aFile("/\xff", 5, ""),
		)
	}
}

func TestSeveralNames(t *testing.T) { // P17.1: the first node has the Data, all others its Path; of these nothing is read
	for _, f := range empties(t, 60, 20) {
		done(t, f, create("/q", 1), write("/q", 0, []byte("one")), mkdir("/d", 2), mkdir("/d/e", 3), mkdir("/p", 4))
		done(t, f, link("/q", "/r"), link("/q", "/d/e/x"), link("/q", "/d/y"), link("/q", "/p/a"))
		done(t, f, create("/d/a", 1), write("/d/a", 0, []byte("one")), link("/d/a", "/d/b"), link("/d/a", "/d/e/a"), create("/p/n", 5), link("/p/n", "/p/m"))
		x := &teller{Asker: f}
		tells(t, x,
			aDir("/d", 2),
			aFile("/d/a", 1, "one"),
			aName("/d/b", 1, "/d/a"),
			aDir("/d/e", 3),
			aName("/d/e/a", 1, "/d/a"),
			aFile("/d/e/x", 1, "one"),
			aName("/d/y", 1, "/d/e/x"),
			aDir("/p", 4),
			aName("/p/a", 1, "/d/e/x"),
			aFile("/p/m", 5, ""),
			aName("/p/n", 5, "/p/m"),
			aName("/q", 1, "/d/e/x"),
			aName("/r", 1, "/d/e/x"),
		)
		asked(t, x,
			list("/"), stat("/d"), list("/d"), stat("/d/a"), read("/d/a", 0, 3), stat("/d/b"),
			stat("/d/e"), list("/d/e"), stat("/d/e/a"), stat("/d/e/x"), read("/d/e/x", 0, 3), stat("/d/y"),
			stat("/p"), list("/p"), stat("/p/a"), stat("/p/m"), stat("/p/n"), stat("/q"), stat("/r"),
		)
		done(t, f, unlink("/d/e/x"), unlink("/d/y")) // another name is the first now
		nodes := dumps(t, f)
		if n := nodes[len(nodes)-2]; !sameNode(n, aName("/q", 1, "/p/a")) {
			t.Errorf("%+v", n)
		}
	}
}

func TestInodesThatAreUsedAgain(t *testing.T) { // P17.1: a file that had another one's inode is no name of it
	for _, f := range empties(t, 40, 4) {
		done(t, f, create("/a", 1), write("/a", 0, []byte("a")), create("/b", 2), unlink("/a"), create("/c", 3), link("/c", "/a"))
		tells(t, f, aFile("/a", 3, ""), aFile("/b", 2, ""), aName("/c", 3, "/a"))
	}
}

func TestSizes(t *testing.T) { // P17.1: all bytes of a file, in pieces of MaxData; of an empty one nothing is read
	for _, f := range empties(t, 1300, 4) {
		for _, n := range []int{0, 1, 127, 128, 129, 5000, api.MaxData - 1, api.MaxData, api.MaxData + 1, api.MaxFile - 1, api.MaxFile} {
			data := some(n)
			done(t, f, create("/f", 3), write("/f", 0, []byte(data[:n/2])), write("/f", n/2, []byte(data[n/2:])))
			x := &teller{Asker: f}
			tells(t, x, aFile("/f", 3, data))
			want := []api.Op{list("/"), stat("/f")}
			if n > 0 {
				want = append(want, read("/f", 0, min(n, 131072)))
			}
			if n > 131072 {
				want = append(want, read("/f", 131072, n-131072))
			}
			asked(t, x, want...)
			done(t, f, unlink("/f"))
		}
	}
}

func TestHoles(t *testing.T) { // P17.1: they are told as zeros, up to the size
	for _, f := range empties(t, 60, 8) {
		done(t, f, create("/a", 1), truncate("/a", api.MaxFile))
		done(t, f, create("/b", 2), write("/b", 6000, []byte("x")), truncate("/b", 7001))
		done(t, f, create("/c", 3), write("/c", 0, []byte("some")), truncate("/c", 2), truncate("/c", 4))
		tells(t, f, aFile("/a", 1, zeros(api.MaxFile)), aFile("/b", 2, zeros(6000)+"x"+zeros(1000)), aFile("/c", 3, "so\x00\x00"))
	}
}

func TestMadeIsTold(t *testing.T) { // P17.1: of files, of all their names, of directories
	for _, f := range empties(t, 40, 8) {
		done(t, f, create("/a", 0), create("/b", 1<<40), mkdir("/c", 1<<40), mkdir("/d", 0), link("/b", "/c/x"), mkdir("/e", 1<<32))
		tells(t, f, aFile("/a", 0, ""), aFile("/b", 1<<40, ""), aDir("/c", 1<<40), aName("/c/x", 1<<40, "/b"), aDir("/d", 0), aDir("/e", 1<<32))
	}
}

func TestDumpEndsAtAnError(t *testing.T) { // P17.1: at each call: no nodes, that Code, and nothing is asked any more
	for _, f := range empties(t, 1300, 20) {
		done(t, f, script()...)
		done(t, f, create("/d/long", 8), truncate("/d/long", api.MaxFile), mkdir("/e", 9))
		whole := &teller{Asker: f}
		dumps(t, whole)
		asked(t, whole,
			list("/"), stat("/b"), read("/b", 0, 203), stat("/c"), stat("/d"), list("/d"), stat("/d/a"),
			stat("/d/long"), read("/d/long", 0, 131072), read("/d/long", 131072, 5632), stat("/e"), list("/e"),
		)
		for k := range whole.ops {
			for _, code := range []api.Errno{api.ErrArg, api.ErrDirNone, api.ErrDiskDown, api.ErrFSDead, api.ErrDumpNode, 9999, -1} {
				x := &teller{Asker: f, fail: k + 1, code: code}
				refuses(t, x, code)
				asked(t, x, whole.ops[:k+1]...)
			}
		}
	}
}

func TestDumpOfADeadOne(t *testing.T) { // P17.1: what a file system that has lost its disk answers
	d := made(t, 40, 8)
	f := mounted(t, d)
	done(t, f, script()...)
	if e := d.Arm(0); e != api.OK {
		t.Fatal(e)
	}
	if a := f.Do(sync()); a.Code != api.ErrDiskDown {
		t.Fatalf("Sync: %d", a.Code)
	}
	refuses(t, f, api.ErrFSDead)
	fills(t, f, 0, api.ErrFSDead, scriptNodes()...)
}

// chain is a path of so many names of 39 bytes, each ahead of which stands a '/'.
func chain(letter string, n int) string { return strings.Repeat("/"+strings.Repeat(letter, 39), n) }

func TestPathsThatAreTooLong(t *testing.T) { // P17.1: a path of 400 bytes is told; of more, which a rename may have made, the Asker's error
	for _, f := range empties(t, 60, 20) {
		for n := 1; n <= 7; n++ {
			done(t, f, mkdir(chain("a", n), n))
		}
		for n := 1; n <= 4; n++ {
			done(t, f, mkdir(chain("b", n), n))
		}
		top := chain("a", 1)
		done(t, f, rename(top, chain("b", 3)+top))
		nodes := dumps(t, f)
		if n := nodes[len(nodes)-2]; len(nodes) != 11 || !sameNode(n, aDir(chain("b", 3)+chain("a", 7), 7)) || len(n.Path) != 400 {
			t.Errorf("Dump:%s", sayNodes(nodes))
		}
		done(t, f, rename(chain("b", 3)+top, chain("b", 4)+top))
		x := &teller{Asker: f}
		refuses(t, x, api.ErrPathForm)
		if o := x.ops[len(x.ops)-1]; o.Kind != api.OpStat || o.Path != chain("b", 4)+chain("a", 7) {
			t.Errorf("it ended behind %s", say(o))
		}
	}
}

func TestDumpChangesNothing(t *testing.T) { // P17.1: it asks questions alone
	d := made(t, 60, 20)
	f := mounted(t, d)
	done(t, f, script()...)
	room, dirty, writes := f.Room(), f.Dirty(), d.Writes()
	x := &teller{Asker: f}
	first := dumps(t, x)
	if !sameNodes(first, dumps(t, x)) {
		t.Error("another Dump tells another tree")
	}
	for _, o := range x.ops {
		if o.Kind != api.OpList && o.Kind != api.OpStat && o.Kind != api.OpRead {
			t.Errorf("it asks %s", say(o))
		}
	}
	if f.Room() != room || !slices.Equal(f.Dirty(), dirty) || d.Writes() != writes {
		t.Error("something has changed")
	}
}

func TestAskersOfBothKinds(t *testing.T) { // the interface is what both have
	var _ dump.Asker = (*fs.FS)(nil)
	f, p := onDisk(t, 100, 20), inMemory(t, 100, 20)
	done(t, f, script()...)
	done(t, p, script()...)
	tells(t, f, dumps(t, p)...)
}
