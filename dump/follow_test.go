package dump_test

import (
	"testing"

	"breakwater/api"
	"breakwater/dump"
)

func TestTheSameDump(t *testing.T) { // P17.1, P17.5, W1: on a disk as in memory, whatever was flushed; it is what questions tell
	names, long := 0, 0
	for seed := range 80 {
		g := gameOf(t, seed)
		for range 5 {
			g.play(30)
			nodes := dumps(t, g.p)
			tells(t, g.f, nodes...)
			if want := told(g.p); !sameNodes(nodes, want) {
				t.Fatalf("seed %d: Dump:%s\nwant:%s", seed, sayNodes(nodes), sayNodes(want))
			}
			for _, n := range nodes {
				if n.Same != "" {
					names++
				}
				if len(n.Data) > api.MaxData {
					long++
				}
			}
		}
	}
	if names < 100 || long < 100 {
		t.Errorf("%d further names and %d long files were met", names, long)
	}
}

func TestFilledAgain(t *testing.T) { // P17.5, W9: dumped, through bytes, filled into an empty one, dumped: the same, with as many sectors or fewer
	fewer := 0
	for seed := range 80 {
		g := gameOf(t, seed)
		g.play(120)
		nodes := dumps(t, g.f)
		b, e := dump.Bytes(nodes...)
		if e != api.OK {
			t.Fatalf("Bytes: %d", e)
		}
		reads(t, string(b), nodes...)
		had := sectorsOf(g.f)
		for _, f := range empties(t, g.size.sectors, g.size.inodes) {
			fills(t, f, len(nodes), api.OK, nodes...)
			tells(t, f, nodes...)
			switch n := sectorsOf(f); {
			case n > had:
				t.Errorf("seed %d: it has %d sectors, had %d", seed, n, had)
			case n < had:
				fewer++
			}
			if x := f.Room().Inodes; x != g.f.Room().Inodes {
				t.Errorf("seed %d: %d inodes are left, not %d", seed, x, g.f.Room().Inodes)
			}
		}
	}
	if fewer < 50 {
		t.Errorf("%d of them have fewer sectors", fewer)
	}
}

func TestFilledIntoJustEnough(t *testing.T) { // P17.5, W7, W9: with room for it and no more; with one sector less there is none
	tight := 0
	for seed := range 40 {
		g := gameOf(t, seed)
		g.play(120)
		nodes := dumps(t, g.f)
		p := inMemory(t, g.size.sectors, g.size.inodes)
		fills(t, p, len(nodes), api.OK, nodes...)
		sectors, inodes := sectorsOf(p), g.size.inodes-p.Room().Inodes
		all := max(8, 1+inodes+max(sectors, 1))
		for _, f := range empties(t, all, inodes) {
			fills(t, f, len(nodes), api.OK, nodes...)
			tells(t, f, nodes...)
		}
		if sectors < 2 || all == 8 {
			continue
		}
		tight++
		for _, f := range empties(t, all-1, inodes) {
			if n, e := dump.Fill(f, nodes...); e != api.ErrSpaceBlocks || n == len(nodes) {
				t.Errorf("seed %d: with too little room: %d, %d", seed, n, e)
			}
		}
	}
	if tight < 20 {
		t.Errorf("%d of them were tried", tight)
	}
}

func TestSectorsOfZeros(t *testing.T) { // P17.5: they are not made again, nor the tables that led to them alone
	for k, f := range empties(t, 1300, 4) {
		done(t, f, create("/a", 1), write("/a", 0, make([]byte, api.MaxData)), write("/a", 200, []byte("x")), create("/b", 2), unlink("/b"))
		if n := sectorsOf(f); n != 1024+34-1+2 {
			t.Fatalf("it has %d sectors", n)
		}
		nodes := dumps(t, f)
		again := empties(t, 8, 2)[k]
		fills(t, again, 1, api.OK, nodes...)
		tells(t, again, nodes...)
		if n := sectorsOf(again); n != 2 {
			t.Errorf("made again it has %d sectors", n)
		}
		fills(t, f, 0, api.ErrDirThere, nodes...)
	}
}

func TestLongFilesAgain(t *testing.T) { // P17.5: of each length at an edge, on a disk as in memory
	for _, n := range []int{0, 1, 127, 128, 129, 131071, 131072, 131073, 136703, 136704} {
		for _, data := range []string{some(n), zeros(n), zeros(n/2) + some(n-n/2), some(n/2) + zeros(n-n/2)} {
			nodes := []api.Node{aFile("/f", 3, data), aName("/g", 3, "/f")}
			for _, f := range empties(t, 1200, 2) {
				fills(t, f, 2, api.OK, nodes...)
				tells(t, f, nodes...)
			}
		}
	}
}

func TestWhatFillWasTold(t *testing.T) { // P17.5: each node's Made, data, and which names are one file
	nodes := []api.Node{aDir("/a", 1<<40), aFile("/a/x", 0, "x"), aName("/a/y", 0, "/a/x"), aFile("/b", 0, "x"), aDir("/c", 0), aName("/c/b", 0, "/b"), aName("/c/x", 0, "/a/x"), aFile("/d", 1<<40, "")}
	for _, f := range empties(t, 60, 8) {
		fills(t, f, len(nodes), api.OK, nodes...)
		tells(t, f, nodes...)
		for path, want := range map[string]api.Stat{
			"/a": {Ino: 2, Kind: 2, Links: 1, Made: 1 << 40, Size: 256, Blocks: 2}, "/a/x": {Ino: 3, Kind: 1, Links: 3, Size: 1, Blocks: 1}, "/a/y": {Ino: 3, Kind: 1, Links: 3, Size: 1, Blocks: 1},
			"/b": {Ino: 4, Kind: 1, Links: 2, Size: 1, Blocks: 1}, "/c": {Ino: 5, Kind: 2, Links: 1, Size: 256, Blocks: 2}, "/c/b": {Ino: 4, Kind: 1, Links: 2, Size: 1, Blocks: 1},
			"/c/x": {Ino: 3, Kind: 1, Links: 3, Size: 1, Blocks: 1}, "/d": {Ino: 6, Kind: 1, Links: 1, Made: 1 << 40},
		} {
			if a := f.Do(stat(path)); a.Stat != want {
				t.Errorf("%s: %+v, want %+v", path, a, want)
			}
		}
	}
}

func TestBehindALossOfPower(t *testing.T) { // P17.5, W5: a dump behind a Sync is what the next Mount tells; a Fill that was synced stands
	for seed := range 40 {
		g := gameOf(t, seed)
		g.play(80)
		done(t, g.f, sync())
		nodes := dumps(t, g.f)
		if e := g.d.Arm(0); e != api.OK {
			t.Fatal(e)
		}
		for g.f.Do(g.some()).Code != api.ErrDiskDown { // whatever is done, nothing lands
		}
		refuses(t, g.f, api.ErrFSDead)
		g.d.Restart()
		writes := g.d.Writes()
		tells(t, mounted(t, g.d), nodes...)
		if g.d.Writes() != writes {
			t.Errorf("seed %d: the Mount has written", seed)
		}

		d := made(t, g.size.sectors, g.size.inodes)
		f := mounted(t, d)
		fills(t, f, len(nodes), api.OK, nodes...)
		done(t, f, sync())
		d.Restart()
		tells(t, mounted(t, d), nodes...)
	}
}

func TestPowerGoesWithinAFill(t *testing.T) { // P17.2: ErrDiskDown goes up, wherever it comes, with how many were whole
	nodes := []api.Node{aFile("/a", 1, some(1500)), aDir("/b", 2), aFile("/b/c", 3, some(700))}
	went := 0
	for n := range 60 {
		d := made(t, 40, 8)
		f := mounted(t, d)
		done(t, f, create("/x", 9), write("/x", 0, []byte(some(18*128))), unlink("/x")) // room is there behind a Sync alone
		if e := d.Arm(n); e != api.OK {
			t.Fatal(e)
		}
		x := &teller{Asker: f}
		made, e := dump.Fill(x, nodes...)
		if e == api.OK {
			continue
		}
		went++
		last := x.answers[len(x.answers)-1].Code
		if e != api.ErrDiskDown || last != e || made == len(nodes) {
			t.Errorf("behind %d writes: %d, %d", n, made, e)
		}
		for _, a := range x.answers[:len(x.answers)-1] {
			if a.Code != api.OK {
				t.Errorf("behind %d writes it went on behind %d", n, a.Code)
			}
		}
	}
	if went == 0 {
		t.Error("the power never went")
	}
}
