package share_test

import (
	"fmt"
	"slices"
	"strings"
	"testing"

	"breakwater/api"
	"breakwater/disk"
	"breakwater/fs"
)

// size is that of a file system in which is played: how many names there are in it.
type size struct{ sectors, inodes, names int }

func sizes() []size {
	return []size{{60, 8, 4}, {24, 6, 3}, {120, 40, 12}, {200, 100, 60}, {40, 4, 20}, {400, 12, 5}, {8, 6, 3}}
}

// game is a file system that is shared, and another one on a disk of its own that is not: few names and places, so that they meet.
type game struct {
	*rig
	size  size
	next  func(int) int
	disk  *disk.Disk
	other *fs.FS
	made  int
}

func gameOf(t *testing.T, seed int) *game {
	t.Helper()
	s := sizes()[seed%len(sizes())]
	d := madeDisk(t, s.sectors, s.inodes)
	return &game{rig: rigOf(t, s.sectors, s.inodes), size: s, next: steps(uint32(seed)), disk: d, other: mounted(t, d)}
}

func (g *game) one(all []string) string { return all[g.next(len(all))] }

// paths are those of all that can be reached.
func (g *game) paths() []string {
	all := []string{"/"}
	for at := 0; at < len(all); at++ {
		for _, n := range g.other.Do(list(all[at])).Entries {
			all = append(all, strings.TrimSuffix(all[at], "/")+"/"+n.Name)
		}
	}
	return all
}

// there is a path that leads somewhere, but for some.
func (g *game) there() string {
	if g.next(15) == 0 {
		return g.one([]string{"", "a", "/a/", "/..", "/none", "/n0/none", "/a\x00"})
	}
	return g.one(g.paths())
}

// fresh is a path that may be new.
func (g *game) fresh() string {
	return strings.TrimSuffix(g.one(g.paths()), "/") + "/" + count(g.next(g.size.names))
}

// place is a byte's: at the ends of blocks, and of what tables lead to.
func (g *game) place() int {
	ends := []int{0, 0, 0, 128, 256, 1536, 5632, 136704}
	return ends[g.next(len(ends))] + g.next(5) - 2
}

// some is an operation.
func (g *game) some() api.Op {
	switch kind := g.next(32); {
	case kind < 8:
		g.made++
		return api.Op{Kind: api.OpCreate + kind/5, Path: g.fresh(), Made: g.made}
	case kind < 10:
		return link(g.there(), g.fresh())
	case kind < 12:
		return unlink(g.there())
	case kind < 14:
		return rmdir(g.there())
	case kind < 17:
		return rename(g.there(), g.fresh())
	case kind < 22:
		return write(g.there(), g.place(), some([]int{0, 1, 3, 128, 129, 300, 700}[g.next(7)]))
	case kind < 24:
		return truncate(g.there(), g.place())
	case kind < 25:
		return syncAll()
	case kind < 26:
		return fsync(g.there())
	case kind < 28:
		return api.Op{Kind: g.next(17) - 1, Path: g.there(), Off: g.next(3) - 1, Pick: g.next(2)}
	}
	if all := g.other.Dirty(); len(all) > 0 {
		return flush(all[g.next(len(all))])
	}
	return g.question()
}

// question is one, which may be refused.
func (g *game) question() api.Op {
	switch g.next(8) {
	case 0, 1:
		return stat(g.there())
	case 2, 3:
		return list(g.there())
	case 4:
		return api.Op{Kind: api.OpRead + g.next(3), Path: g.there(), Off: g.next(2), Made: g.next(2)}
	}
	return read(g.there(), g.place(), g.next(300))
}

// questions are some, mostly few, now and then as many as there may be; some of them alike.
func (g *game) questions() []api.Op {
	var ops []api.Op
	for range []int{0, 1, 2, 3, 5, 8, 16, 17, 64}[g.next(9)] {
		if len(ops) > 0 && g.next(4) == 0 {
			ops = append(ops, ops[g.next(len(ops))])
			continue
		}
		ops = append(ops, g.question())
	}
	return ops
}

// whole is all that is told without a question.
func whole(f *fs.FS, d *disk.Disk) string {
	return fmt.Sprintf("%+v %v %d %x", f.Room(), f.Dirty(), d.Writes(), d.Image())
}

// step does an operation in both, which must be answered alike.
func (g *game) step() api.Answer {
	g.Helper()
	o := g.some()
	want := g.other.Do(o)
	if a := g.s.Do(o); !equal(a, want) {
		g.Fatalf("Do of %s: %+v, want %+v", say(o), a, want)
	}
	return want
}

func TestDoIsTheFileSystems(t *testing.T) { // P18.2: each operation is answered, and done, as one that is not shared does it
	codes := map[api.Errno]int{}
	landed := 0
	for seed := range 35 {
		g := gameOf(t, seed)
		for range 120 {
			a := g.step()
			codes[a.Code]++
			if a.Landed {
				landed++
			}
			if g.outside() != whole(g.other, g.disk) {
				t.Fatalf("seed %d: another thing was done", seed)
			}
		}
		if told(g.s) != told(g.other) {
			t.Fatalf("seed %d: another thing is told", seed)
		}
	}
	for _, e := range []api.Errno{api.OK, api.ErrFSOp, api.ErrPathForm, api.ErrPathName, api.ErrTreeRoot, api.ErrDirKind, api.ErrDirNone, api.ErrDirThere, api.ErrSpaceInodes, api.ErrSpaceBlocks, api.ErrFileKind, api.ErrFileRange, api.ErrTreeFull} {
		if codes[e] == 0 {
			t.Errorf("%d was never answered", e)
		}
	}
	if landed == 0 {
		t.Error("nothing has ever landed")
	}
}

func TestEachAsByDo(t *testing.T) { // P18.5: Each tells what as many Do tell, in whatever order, and changes nothing that is told, now or later
	codes := map[api.Errno]int{}
	for seed := range 35 {
		g := gameOf(t, seed)
		for range 60 {
			g.step()
			ops := g.questions()
			before := g.outside()
			got := g.each(ops...)
			if g.outside() != before {
				t.Fatalf("seed %d: an Each has changed something", seed)
			}
			for _, a := range got {
				codes[a.Code]++
			}
			for _, by := range []asker{g.other, g.s} {
				g.inAnyOrder(by, ops, got)
			}
			g.tells(ops, got...)
		}
		if g.outside() != whole(g.other, g.disk) || told(g.s) != told(g.other) {
			t.Fatalf("seed %d: it is another one by Each", seed)
		}
	}
	for _, e := range []api.Errno{api.OK, api.ErrFSOp, api.ErrPathForm, api.ErrDirKind, api.ErrDirNone, api.ErrFileKind, api.ErrFileRange} {
		if codes[e] == 0 {
			t.Errorf("%d was never answered", e)
		}
	}
}

// inAnyOrder holds answers to what as many Do tell, forward, backward and mixed.
func (g *game) inAnyOrder(by asker, ops []api.Op, got []api.Answer) {
	g.Helper()
	forward := make([]int, len(ops))
	for k := range forward {
		forward[k] = k
	}
	backward, mixed := slices.Clone(forward), slices.Clone(forward)
	slices.Reverse(backward)
	for k := range mixed {
		j := g.next(k + 1)
		mixed[k], mixed[j] = mixed[j], mixed[k]
	}
	for _, k := range slices.Concat(forward, backward, mixed) {
		if want := by.Do(ops[k]); !equal(got[k], want) {
			g.Fatalf("at place %d: %s: %+v, want %+v", k, say(ops[k]), got[k], want)
		}
	}
}

func TestEachInAnotherOrder(t *testing.T) { // P18.5: turned questions have turned answers
	for seed := range 21 {
		g := gameOf(t, seed)
		for range 40 {
			g.step()
		}
		for range 10 {
			ops := g.questions()
			got := g.each(ops...)
			slices.Reverse(ops)
			slices.Reverse(got)
			g.tells(ops, got...)
		}
	}
}
