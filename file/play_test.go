package file_test

import (
	"maps"
	"slices"
	"testing"

	"breakwater/api"
	"breakwater/cache"
	"breakwater/file"
)

// The kinds of deeds that are played.
const (
	doMake = iota
	doPut
	doLay
	doWrite
	doTruncate
	doFsync
	doFree
	doFlush
	doSync
	doSettle
	doEnsure
)

// deed is one that is played on files.
type deed struct {
	kind, i int // an inode, where one is made: 0, or one that was taken long ago
	n       int // an offset, a size, a sector, a kind of inode
	data    []byte
	list    []api.Block
	after   []int
}

// of does it with files.
func (k deed) of(r *rig) api.Errno {
	switch k.kind {
	case doMake:
		i := k.i
		if i == 0 {
			i, _ = r.s.TakeInode()
		}
		return r.f.Put(i, api.Inode{Kind: k.n, Links: 1, Made: 100 + i}, k.after...)
	case doPut:
		x, e := r.f.Inode(k.i)
		if e != api.OK {
			return e
		}
		x.Links = k.n
		return r.f.Put(k.i, x, k.after...)
	case doLay:
		return r.f.Lay(k.i, k.n, k.list...)
	case doWrite:
		return r.f.Write(k.i, k.n, k.data)
	case doTruncate:
		return r.f.Truncate(k.i, k.n)
	case doFsync:
		return r.f.Fsync(k.i)
	case doFree:
		return r.f.Free(k.i, k.after...)
	case doSettle:
		return r.f.Settle()
	case doEnsure:
		return r.f.Ensure(k.n)
	}
	return k.below(r.c)
}

// below does what is done without files.
func (k deed) below(c *cache.Cache) api.Errno {
	if k.kind == doSync {
		return c.Sync()
	}
	_, e := c.Flush(k.n)
	return e
}

// ofPlain does it with the plain one.
func (k deed) ofPlain(p *plain) api.Errno {
	switch k.kind {
	case doMake:
		i, _ := p.s.TakeInode()
		return p.put(i, k.n, 1, k.after)
	case doPut:
		return p.put(k.i, p.made[k.i].kind, k.n, k.after)
	case doLay:
		return p.lay(k.i, k.n, k.list)
	case doWrite:
		return p.write(k.i, k.n, k.data)
	case doTruncate:
		return p.truncate(k.i, k.n)
	case doFsync:
		return p.fsync(k.i)
	case doFree:
		return p.free(k.i, k.after)
	case doSettle:
		return p.settle()
	case doEnsure:
		return p.ensure(k.n)
	}
	return k.below(p.c)
}

// someOffset is often at an edge, mostly early, and such that n bytes have room.
func someOffset(next func(int) int, n int) int {
	edges := []int{0, 127, 128, 1400, 1535, 1536, 5500, 5631, 5632, 9727, 9728, 136703}
	off := 0
	switch next(4) {
	case 0:
		off = edges[next(len(edges))]
	case 1:
		off = next(12000)
	case 2:
		off = next(136704)
	case 3:
		off = next(800)
	}
	return max(min(off, 136704-n), 0)
}

// someSectors are any.
func someSectors(next func(int) int, sectors int) []int {
	var list []int
	for range max(next(6)-2, 0) {
		list = append(list, next(sectors))
	}
	return list
}

// someBlocks are blocks, early ones and such at edges, to land behind others.
func someBlocks(next func(int) int, sectors int) []api.Block {
	indexes := []int{0, 5, 11, 12, 13, 43, 44, 45, 75, 76, 77, 1067}
	var list []api.Block
	for range next(4) {
		b := block(indexes[next(len(indexes))], byte(1+next(255)))
		b.After = someSectors(next, sectors)
		list = append(list, b)
	}
	return list
}

// someData are bytes, of few sectors.
func someData(next func(int) int) []byte {
	sizes := []int{0, 1, 127, 128, 129, 300, 900}
	return filled(sizes[next(len(sizes))], next(50))
}

// some is a deed that may be done, as things stand in a plain one: not one that is refused but for room.
func some(next func(int) int, p *plain, sectors int) deed {
	made := slices.Sorted(maps.Keys(p.made))
	if len(made) == 0 || next(12) == 0 && p.s.Room().Inodes > 0 {
		kind := api.KindFile
		if next(3) == 0 {
			kind = api.KindDir
		}
		return deed{kind: doMake, n: kind, after: someSectors(next, sectors)}
	}
	i := made[next(len(made))]
	file := p.made[i].kind == api.KindFile
	switch next(12) {
	case 0:
		return deed{kind: doPut, i: i, n: next(101), after: someSectors(next, sectors)}
	case 1, 2, 3:
		return deed{kind: doLay, i: i, n: 128 * next(1069), list: someBlocks(next, sectors)}
	case 4, 5:
		if data := someData(next); file {
			return deed{kind: doWrite, i: i, n: someOffset(next, len(data)), data: data}
		}
	case 6, 7:
		if file {
			return deed{kind: doTruncate, i: i, n: someOffset(next, 0)}
		}
	case 8:
		if i != api.Root && next(2) == 0 {
			return deed{kind: doFree, i: i, after: someSectors(next, sectors)}
		}
		return deed{kind: doFsync, i: i}
	case 9:
		return deed{kind: []int{doSync, doSettle, doEnsure}[next(3)], n: next(sectors)}
	}
	return deed{kind: doFlush, n: next(sectors)}
}

// agree holds files to a plain one, in all that can be told.
func agree(t *testing.T, r *rig, p *plain) {
	t.Helper()
	if !r.state().equals(p.state()) {
		t.Errorf("dirty %v, want %v; edges %v, want %v; room %+v, want %+v", r.c.Dirty(), p.c.Dirty(), r.c.Edges(), p.c.Edges(), r.s.Room(), p.s.Room())
	}
	for i, x := range p.made {
		if y, e := r.f.Inode(i); y != x.inode() || e != api.OK {
			t.Errorf("Inode(%d): %+v, %d; want %+v", i, y, e, x.inode())
		}
		r.count(i, len(x.own()))
	}
	for i := range 9 {
		if r.s.Used(i) != p.s.Used(i) {
			t.Errorf("Used(%d): %v", i, r.s.Used(i))
		}
	}
}

func TestFilesDoWhatTheWordsSay(t *testing.T) { // P10.2 to P10.9
	for seed := range uint32(150) {
		next := steps(seed)
		sectors := 20 + next(60)
		r, p := rigOf(t, sectors, 4), plainOf(t, sectors, 4)
		for range 80 {
			k := some(next, p, sectors)
			e, want := k.of(r), k.ofPlain(p)
			if e != want || want == api.ErrDiskDown {
				t.Errorf("%+v: %d, want %d", k, e, want)
			}
			agree(t, r, p)
			if t.Failed() {
				t.Fatalf("seed %d", seed)
			}
		}
	}
}

func TestThePowerAtAnyWrite(t *testing.T) { // P10.2 to P10.9, R3: what stands on the disk then
	for seed := range uint32(400) {
		next := steps(seed + 5000)
		sectors := 20 + next(60)
		r, p := rigOf(t, sectors, 4), plainOf(t, sectors, 4)
		left := next(60)
		r.d.Arm(left)
		p.d.Arm(left)
		for range 120 {
			k := some(next, p, sectors)
			e, want := k.of(r), k.ofPlain(p)
			if e != want || r.d.Down() != p.d.Down() || !slices.Equal(r.d.Image(), p.d.Image()) || r.d.Writes() != p.d.Writes() {
				t.Fatalf("seed %d: %+v: %d, want %d", seed, k, e, want)
			}
			if want == api.ErrDiskDown {
				r.goodForNothing(p.d.Image())
				break
			}
		}
	}
}

func TestTwoSideBySide(t *testing.T) { // R5: in turns they do what each does alone
	for seed := range uint32(20) {
		a, b := steps(seed+100), steps(seed+200)
		r, s := rigOf(t, 50, 4), rigOf(t, 70, 4)
		p, q := plainOf(t, 50, 4), plainOf(t, 70, 4)
		for range 60 {
			k, l := some(a, p, 50), some(b, q, 70)
			r.is("one", k.of(r), k.ofPlain(p))
			s.is("the other", l.of(s), l.ofPlain(q))
			agree(t, r, p)
			agree(t, s, q)
			if t.Failed() {
				t.Fatalf("seed %d", seed)
			}
		}
	}
}

func TestFilesThatAreMadeAnew(t *testing.T) { // R5: files keep nothing that the cache and the space do not tell
	for seed := range uint32(20) {
		next := steps(seed + 300)
		r, p := rigOf(t, 50, 4), plainOf(t, 50, 4)
		for range 60 {
			k := some(next, p, 50)
			r.is("it", k.of(r), k.ofPlain(p))
			r.f, _ = file.New(r.c, r.s)
			agree(t, r, p)
			if t.Failed() {
				t.Fatalf("seed %d", seed)
			}
		}
	}
}
