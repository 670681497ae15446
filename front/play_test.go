package front_test

import (
	"fmt"
	"slices"
	"strings"
	"testing"

	"breakwater/api"
	"breakwater/disk"
	"breakwater/front"
	"breakwater/fs"
)

// size is that of a file system in which is played: how many names there are in it.
type size struct{ sectors, inodes, names int }

func sizes() []size {
	return []size{{60, 8, 4}, {24, 6, 3}, {120, 40, 12}, {200, 100, 60}, {40, 4, 20}, {400, 12, 5}, {8, 6, 3}}
}

// game is a front, and a file system on a disk of its own that is asked by calls: few names and places, so that they meet.
type game struct {
	*rig
	size  size
	next  func(int) int
	disk  *disk.Disk
	other *fs.FS
	made  int
}

func gameOf(t *testing.T, seed int) *game {
	t.Helper()
	s := sizes()[seed%len(sizes())]
	d := madeDisk(t, s.sectors, s.inodes)
	return &game{rig: rigOf(t, s.sectors, s.inodes), size: s, next: steps(uint32(seed)), disk: d, other: mounted(t, d)}
}

func (g *game) one(all []string) string { return all[g.next(len(all))] }

// paths are those of all that can be reached.
func (g *game) paths() []string {
	all := []string{"/"}
	for at := 0; at < len(all); at++ {
		for _, n := range g.other.Do(list(all[at])).Entries {
			all = append(all, strings.TrimSuffix(all[at], "/")+"/"+n.Name)
		}
	}
	return all
}

// there is a path that leads somewhere, but for some.
func (g *game) there() string {
	if g.next(12) == 0 {
		return g.one([]string{"", "a", "/a/", "/..", "/none", "/n0/none", "/a\x00", long(400), "/" + long(41), "\xff"})
	}
	return g.one(g.paths())
}

// fresh is a path that may be new.
func (g *game) fresh() string {
	p := strings.TrimSuffix(g.one(g.paths()), "/") + "/" + fmt.Sprintf("n%d", g.next(g.size.names))
	return p[:min(len(p), 400)]
}

// place is a byte's: at the ends of blocks, of what tables lead to, and of what a request may say.
func (g *game) place() int {
	ends := []int{2, 2, 2, 128, 256, 1536, 5632, 136704, 1<<62 - 4}
	return ends[g.next(len(ends))] + g.next(5) - 2
}

// some is an operation that has bytes.
func (g *game) some() api.Op {
	switch kind := g.next(36); {
	case kind < 8:
		g.made++
		return api.Op{Kind: api.OpCreate + kind/5, Path: g.fresh(), Made: g.made << g.next(30)}
	case kind < 10:
		return link(g.there(), g.fresh())
	case kind < 12:
		return unlink(g.there())
	case kind < 14:
		return rmdir(g.there())
	case kind < 17:
		return rename(g.there(), g.fresh())
	case kind < 22:
		return write(g.there(), g.place(), some([]int{0, 1, 3, 128, 129, 300, 700}[g.next(7)]))
	case kind < 24:
		return truncate(g.there(), g.place())
	case kind < 25:
		return syncAll()
	case kind < 26:
		return fsync(g.there())
	case kind < 28:
		return stat(g.there())
	case kind < 30:
		return list(g.there())
	case kind < 33:
		return read(g.there(), g.place(), []int{0, 1, 7, 300, 1 << 17, 1<<17 + 1, 1 << 62}[g.next(7)])
	}
	if all := g.other.Dirty(); len(all) > 0 && g.next(6) > 0 {
		return flush(all[g.next(len(all))])
	}
	return flush(g.next(1<<20) << g.next(13))
}

// step does an operation in both, which must be answered alike, byte by byte.
func (g *game) step() (api.Op, api.Answer) {
	g.Helper()
	o := g.some()
	want := g.other.Do(o)
	b, e := front.Bytes(o)
	if e != api.OK {
		g.Fatalf("Bytes of %s: %d", say(o), e)
	}
	got := g.f.Do(b)
	if a, e := front.ReadAnswer(got); e != api.OK || !equal(a, want) || string(got) != encodedAnswer(want) {
		g.Fatalf("%s: %s, %d, want %s", say(o), sayAnswer(a), e, sayAnswer(want))
	}
	return o, want
}

// same holds the two disks, and all that questions tell, to being alike.
func (g *game) same() {
	g.Helper()
	if g.d.Writes() != g.disk.Writes() || g.d.Down() != g.disk.Down() || !slices.Equal(g.d.Image(), g.disk.Image()) {
		g.Fatal("the disks are not alike")
	}
	if !g.d.Down() && told(g) != told(g.other) {
		g.Fatal("another thing is told")
	}
}

// met holds what a game has met to being all that it should.
func met(t *testing.T, codes map[api.Errno]int, want ...api.Errno) {
	t.Helper()
	for _, e := range want {
		if codes[e] == 0 {
			t.Errorf("%d was never answered", e)
		}
	}
}

func TestAsTheFileSystem(t *testing.T) { // P19.4, P19.8: requests are answered, and done, as one that is asked by calls does it, over a disk that was used alike; what is no request changes nothing
	codes := map[api.Errno]int{}
	kinds := map[int]int{}
	landed := 0
	for seed := range 70 {
		g := gameOf(t, seed)
		for range 150 {
			o, a := g.step()
			codes[a.Code]++
			if a.Code == api.OK {
				kinds[o.Kind]++
			}
			if a.Landed {
				landed++
			}
			if g.next(10) == 0 {
				b := encoded(g.some())
				g.wrong(b[:g.next(len(b))])
				g.wrong(b + "\x00")
			}
			if g.d.Writes() != g.disk.Writes() || !slices.Equal(g.d.Image(), g.disk.Image()) {
				t.Fatalf("seed %d: %s: another thing was done", seed, say(o))
			}
		}
		g.same()
	}
	met(t, codes, api.OK, api.ErrPathForm, api.ErrPathName, api.ErrTreeRoot, api.ErrDirKind, api.ErrDirNone, api.ErrDirThere, api.ErrSpaceInodes, api.ErrSpaceBlocks, api.ErrFileKind, api.ErrFileRange, api.ErrTreeFull, api.ErrTreeLoop)
	for kind := 1; kind <= 14; kind++ {
		if kinds[kind] < 20 {
			t.Errorf("kind %d was done %d times", kind, kinds[kind])
		}
	}
	if landed == 0 {
		t.Error("nothing has ever landed")
	}
}

func TestThePowerGoesNowAndThen(t *testing.T) { // P19.3, P19.8: likewise with losses of power: what is answered in them and behind them, and by a new front
	codes := map[api.Errno]int{}
	for seed := range 70 {
		g := gameOf(t, seed)
		for range 6 {
			armed := g.next(12)
			g.arm(armed)
			g.disk.Arm(armed)
			for range 60 {
				_, a := g.step()
				codes[a.Code]++
				if a.Code == api.ErrDiskDown {
					break
				}
			}
			dead := g.d.Down()
			for range 5 {
				g.wrong("\x0c\x00")
				if _, a := g.step(); dead && a.Code != api.ErrFSDead {
					t.Fatalf("behind a loss of power: %d", a.Code)
				}
			}
			g.same()
			g.d.Restart()
			g.disk.Restart()
			g.rig, g.other = rigOn(t, g.d), mounted(t, g.disk)
			g.same()
		}
	}
	met(t, codes, api.OK, api.ErrDiskDown)
}
