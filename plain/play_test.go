package plain_test

import (
	"strings"
	"testing"

	"breakwater/api"
)

// size is that of a file system in which is played: how many names there are in it.
type size struct{ sectors, inodes, names int }

// sizes are some of each kind: with much room and with little, with many names, so that there are tables.
func sizes() []size {
	return []size{{60, 8, 4}, {24, 6, 3}, {16, 7, 3}, {120, 40, 12}, {200, 100, 60}, {40, 4, 20}, {400, 12, 5}, {8, 2, 2}, {8, 6, 3}}
}

// game is a rig in which operations are played: few names and places, so that they meet.
type game struct {
	*rig
	size  size
	next  func(int) int
	made  int // each making has a time of its own
	stamp int // each writing has bytes of its own
}

func gameOf(t *testing.T, seed int) *game {
	t.Helper()
	s := sizes()[seed%len(sizes())]
	return &game{rig: rigOf(t, s.sectors, s.inodes), size: s, next: steps(uint32(seed))}
}

func (g *game) one(all []string) string { return all[g.next(len(all))] }

func (g *game) kindAt(path string) int { return g.p.Do(stat(path)).Stat.Kind }

// fresh is a path that may be new, in a directory that is there, now and then in a file.
func (g *game) fresh() string {
	all := paths(g.p)
	for {
		s := g.one(all)
		if g.kindAt(s) == api.KindDir || g.next(30) == 0 {
			return strings.TrimSuffix(s, "/") + "/" + count(g.next(g.size.names))
		}
	}
}

// there is a path that leads somewhere, but for some.
func (g *game) there() string {
	switch g.next(20) {
	case 0:
		return g.fresh()
	case 1:
		return g.one([]string{"", "/", "a", "//", "/a/", "/..", "/.", "/a//b", "/a\x00"})
	}
	return g.one(paths(g.p))
}

// file is a path that leads to a file mostly.
func (g *game) file() string {
	s := ""
	for range 3 {
		if s = g.there(); g.kindAt(s) == api.KindFile {
			break
		}
	}
	return s
}

// place is a byte's: at the ends of blocks, and of what tables lead to.
func (g *game) place() int {
	ends := []int{0, 0, 0, 100, 128, 256, 1536, 1664, 5632, 9728, 136704}
	return ends[g.next(len(ends))] + g.next(5) - 2 + g.next(2)*g.next(128)
}

func (g *game) bytes() []byte {
	g.stamp++
	data := make([]byte, []int{0, 1, 3, 60, 128, 129, 300, 700, 1600}[g.next(9)])
	for k := range data {
		data[k] = byte(g.stamp*7 + k/16 + 1)
	}
	return data
}

// some is an operation.
func (g *game) some() api.Op {
	switch kind := g.next(46); {
	case kind < 9:
		g.made++
		return api.Op{Kind: api.OpCreate + kind/6, Path: g.fresh(), Made: g.made}
	case kind < 12:
		return link(g.file(), g.fresh())
	case kind < 15:
		return unlink(g.file())
	case kind < 18:
		return rmdir(g.there())
	case kind < 23:
		return rename(g.there(), g.fresh())
	case kind < 25:
		return rename(g.there(), g.there())
	case kind < 32:
		return write(g.file(), g.place(), g.bytes())
	case kind < 34:
		return truncate(g.file(), g.place())
	}
	return g.ask()
}

// ask is one that changes no name and no byte.
func (g *game) ask() api.Op {
	switch g.next(9) {
	case 0:
		return fsync(g.file())
	case 1:
		return read(g.there(), g.place(), g.next(200))
	case 2:
		return stat(g.there())
	case 3:
		return list(g.there())
	case 4:
		return sync()
	case 5:
		return g.spoilt(g.fresh())
	}
	if all := g.f.Dirty(); len(all) > 0 {
		return flush(all[g.next(len(all))])
	}
	return flush(g.next(50) - 2)
}

// spoilt is an operation some field of which may be one that its kind does not use.
func (g *game) spoilt(at string) api.Op {
	o := api.Op{Kind: g.next(17) - 1, Path: at}
	switch g.next(7) {
	case 0:
		o.To = at
	case 1:
		o.Off = g.next(3) - 1
	case 2:
		o.Len = g.next(3) - 1
	case 3:
		o.Data = make([]byte, g.next(2))
	case 4:
		o.Made = []int{-1, 1 << 40, 1<<40 + 1}[g.next(3)]
	case 5:
		o.Pick = g.next(3) - 1
	}
	if o.Made == 0 && o.Kind <= api.OpMkdir {
		o.Kind = api.OpStat // every making has a time of its own
	}
	if o.Made == 1<<40 && o.Kind <= api.OpMkdir {
		g.made++
		o.Made -= g.made
	}
	return o
}

// step does some operation, on a disk too (P16.6).
func (g *game) step() (api.Op, api.Answer) {
	g.Helper()
	o := g.some()
	return o, g.do(o)
}

func TestAsOnADisk(t *testing.T) { // P16.6, P16.7, P16.8, W1, W7: each operation is answered as on a disk, with the same room; what is refused changes nothing
	codes := map[api.Errno]int{}
	for seed := range 90 {
		g := gameOf(t, seed)
		m := newModel()
		for k := range 150 {
			o, a := g.step()
			codes[a.Code]++
			if a.Code == api.OK {
				m.apply(o)
			}
			g.matches(m, g.size.sectors-1-g.size.inodes, g.size.inodes)
			if k%50 == 49 {
				if told(g.p) != told(g.f) {
					t.Fatalf("seed %d: on a disk another thing is told", seed)
				}
				g.do(sync())
				g.mount()
			}
		}
	}
	for _, e := range []api.Errno{
		api.OK, api.ErrFSOp, api.ErrPathForm, api.ErrPathName, api.ErrTreeRoot, api.ErrDirKind, api.ErrDirNone, api.ErrDirThere, api.ErrSpaceInodes, api.ErrSpaceBlocks,
		api.ErrFileKind, api.ErrFileRange, api.ErrTreeFull, api.ErrTreeLoop,
	} {
		if codes[e] == 0 {
			t.Errorf("%d was never answered", e)
		}
	}
}

func TestTheSameAgain(t *testing.T) { // R5: the same operations, the same answers
	for seed := range 10 {
		a, b := gameOf(t, seed), gameOf(t, seed)
		for range 80 {
			_, x := a.step()
			if _, y := b.step(); !equal(x, y) {
				t.Fatalf("seed %d: %+v, and %+v", seed, x, y)
			}
		}
		if state(a.p) != state(b.p) {
			t.Fatalf("seed %d: another one", seed)
		}
	}
}

func TestQuestionsChangeNothing(t *testing.T) { // P16.2: Read, Stat, List, Sync, Fsync, Flush, and what is refused
	for seed := range 27 {
		g := gameOf(t, seed)
		for range 60 {
			o := g.some()
			before := state(g.p)
			a := g.do(o)
			if (a.Code != api.OK || o.Kind >= api.OpRead) && state(g.p) != before {
				t.Fatalf("%s: %d, and something has changed", say(o), a.Code)
			}
		}
	}
}
