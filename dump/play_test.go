package dump_test

import (
	"strconv"
	"strings"
	"testing"

	"breakwater/api"
	"breakwater/disk"
	"breakwater/fs"
	"breakwater/plain"
)

// size is that of a file system in which is played: how many names there are in it.
type size struct{ sectors, inodes, names int }

// sizes are some of each kind: with much room and with little, with many names, so that there are tables.
func sizes() []size {
	return []size{{60, 8, 4}, {24, 6, 3}, {120, 40, 12}, {200, 100, 60}, {40, 4, 20}, {400, 12, 5}, {16, 7, 3}, {8, 6, 3}}
}

// game is a file system on a disk and one in memory that are told the same: few names and places, so that they meet.
type game struct {
	*testing.T
	size size
	next func(int) int
	d    *disk.Disk
	f    *fs.FS
	p    *plain.Plain
	made int
}

func gameOf(t *testing.T, seed int) *game {
	t.Helper()
	s := sizes()[seed%len(sizes())]
	d := made(t, s.sectors, s.inodes)
	return &game{T: t, size: s, next: steps(uint32(seed)), d: d, f: mounted(t, d), p: inMemory(t, s.sectors, s.inodes)}
}

// there is a path that leads somewhere.
func (g *game) there() string {
	all := append(paths(g.p), "/")
	return all[g.next(len(all))]
}

// file is a path that leads to a file, if one of some does.
func (g *game) file() string {
	s := ""
	for range 5 {
		if s = g.there(); g.p.Do(stat(s)).Stat.Kind == api.KindFile {
			break
		}
	}
	return s
}

// fresh is a path that may be new.
func (g *game) fresh() string {
	return strings.TrimSuffix(g.there(), "/") + "/n" + strconv.Itoa(g.next(g.size.names))
}

// place is a byte's: at the ends of blocks, and of what tables lead to.
func (g *game) place() int {
	ends := []int{0, 0, 0, 128, 256, 384, 1536, 5632, 131072, 136704}
	return ends[g.next(len(ends))] + g.next(5) - 2
}

// bytes are some, among them pieces of zeros.
func (g *game) bytes() []byte {
	data := []byte(some([]int{1, 3, 128, 129, 300, 700, 1600}[g.next(7)]))
	for k := 0; k < len(data); k += 128 {
		if g.next(3) == 0 {
			clear(data[k:min(k+128, len(data))])
		}
	}
	return data
}

// some is an operation.
func (g *game) some() api.Op {
	switch kind := g.next(30); {
	case kind < 8:
		g.made++
		return api.Op{Kind: api.OpCreate + kind/5, Path: g.fresh(), Made: g.made % 7}
	case kind < 12:
		return link(g.file(), g.fresh())
	case kind < 14:
		return unlink(g.file())
	case kind < 15:
		return rmdir(g.there())
	case kind < 18:
		return rename(g.there(), g.fresh())
	case kind < 24:
		return write(g.file(), g.place(), g.bytes())
	case kind < 26:
		return truncate(g.file(), g.place())
	case kind < 27:
		return sync()
	}
	if all := g.f.Dirty(); len(all) > 0 {
		return flush(all[g.next(len(all))])
	}
	return sync()
}

// play does so many operations.
func (g *game) play(n int) {
	g.Helper()
	for range n {
		o := g.some()
		if a, b := g.f.Do(o), g.p.Do(o); a.Code != b.Code {
			g.Fatalf("%s: %d, in memory %d", say(o), a.Code, b.Code)
		}
	}
}
