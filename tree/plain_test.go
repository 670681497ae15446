package tree_test

import (
	"slices"
	"testing"

	"breakwater/api"
	"breakwater/cache"
	"breakwater/dir"
	"breakwater/disk"
	"breakwater/file"
	"breakwater/path"
	"breakwater/space"
)

// plain does what the promises P14.3 to P14.7 say, word by word, each for itself, on layers of its own.
type plain struct {
	*testing.T
	d      *disk.Disk
	c      *cache.Cache
	s      *space.Space
	f      *file.Files
	x      *dir.Dirs
	places map[int][]api.Place
}

// plainOf is one on a disk that was just made.
func plainOf(t *testing.T, sectors, inodes int) *plain {
	t.Helper()
	p := &plain{T: t, d: diskOf(t, sectors, inodes), places: map[int][]api.Place{}}
	p.c, _ = cache.New(p.d)
	p.s, _ = space.New(api.Super{Sectors: sectors, Inodes: inodes}, []int{1}, nil)
	p.f, _ = file.New(p.c, p.s)
	p.x, _ = dir.New(p.c, p.f)
	return p
}

// ok is asked where no call may be refused, but for a loss of power.
func (p *plain) ok(e api.Errno) {
	p.Helper()
	if e != api.OK {
		p.Fatalf("a plain call was refused: %d", e)
	}
}

func (p *plain) inode(i int) api.Inode {
	p.Helper()
	x, e := p.f.Inode(i)
	p.ok(e)
	return x
}

func (p *plain) isDir(i int) bool { p.Helper(); return p.inode(i).Kind == api.KindDir }

// put puts an inode with so many links.
func (p *plain) put(i, links int, after ...int) {
	p.Helper()
	x := p.inode(i)
	x.Links = links
	p.ok(p.f.Put(i, x, after...))
}

func (p *plain) sector(q api.Place) int {
	p.Helper()
	n, e := p.x.Sector(q.Dir, q.Slot)
	p.ok(e)
	return n
}

func (p *plain) set(q api.Place, s api.Slot, after ...int) {
	p.Helper()
	p.ok(p.x.Set(q.Dir, q.Slot, s, after...))
}

func (p *plain) shown(q api.Place) []int {
	p.Helper()
	list, e := p.x.Visible(q.Dir, q.Slot)
	p.ok(e)
	if q.Dir == 1 {
		return list
	}
	if n := len(p.places[q.Dir]); n != 1 {
		p.Fatalf("the directory %d has %d places", q.Dir, n)
	}
	return append(list, p.shown(p.places[q.Dir][0])...)
}

func (p *plain) kept(i int, q api.Place) []int {
	p.Helper()
	var list []int
	for _, o := range p.places[i] {
		if o != q {
			list = append(list, p.shown(o)...)
		}
	}
	return list
}

func (p *plain) noPlace(i int, q api.Place) {
	at := slices.Index(p.places[i], q)
	p.places[i] = slices.Delete(p.places[i], at, at+1)
}

// slotFor is the place for a new entry, and the room for it.
func (p *plain) slotFor(d int) (api.Place, api.Errno) {
	k, need, e := p.x.Place(d)
	if e != api.OK {
		return api.Place{}, e
	}
	return api.Place{Dir: d, Slot: k}, p.f.Ensure(need)
}

// fresh tells why a name may not be new in a directory.
func (p *plain) fresh(d int, name string) api.Errno {
	if e := path.Check(name); e != api.OK {
		return e
	}
	_, _, e := p.x.Find(d, name)
	if e == api.OK {
		return api.ErrDirThere
	}
	if e == api.ErrDirNone {
		return api.OK
	}
	return e
}

func (p *plain) make(d int, name string, kind, made int) (int, api.Errno) {
	p.Helper()
	if kind != 1 && kind != 2 || made < 0 || made > 1<<40 {
		return 0, api.ErrArg
	}
	if e := p.fresh(d, name); e != api.OK {
		return 0, e
	}
	if p.s.Room().Inodes == 0 {
		return 0, api.ErrSpaceInodes
	}
	q, e := p.slotFor(d)
	if e != api.OK {
		return 0, e
	}
	i, e := p.s.TakeInode()
	p.ok(e)
	p.ok(p.f.Put(i, api.Inode{Kind: kind, Links: 1, Made: made}))
	p.set(q, api.Slot{Ino: i, Name: name}, i)
	p.places[i] = []api.Place{q}
	return i, api.OK
}

func (p *plain) link(i, d int, name string) api.Errno {
	p.Helper()
	if e := p.fresh(d, name); e != api.OK {
		return e
	}
	x, e := p.f.Inode(i)
	switch {
	case e != api.OK:
		return e
	case x.Kind == 2:
		return api.ErrFileKind
	case x.Links == 100:
		return api.ErrTreeLinks
	}
	q, e := p.slotFor(d)
	if e != api.OK {
		return e
	}
	p.put(i, x.Links+1)
	p.set(q, api.Slot{Ino: i, Name: name}, i)
	p.places[i] = append(p.places[i], q)
	return api.OK
}

func (p *plain) unlink(d int, name string) api.Errno {
	p.Helper()
	k, i, e := p.x.Find(d, name)
	if e != api.OK {
		return e
	}
	if p.isDir(i) {
		return api.ErrFileKind
	}
	q := api.Place{Dir: d, Slot: k}
	s := p.sector(q)
	p.set(q, api.Slot{}, p.kept(i, q)...)
	p.noPlace(i, q)
	if len(p.places[i]) > 0 {
		p.put(i, p.inode(i).Links-1, s)
	} else {
		p.ok(p.f.Free(i, s))
	}
	return api.OK
}

func (p *plain) rmdir(d int, name string) api.Errno {
	p.Helper()
	k, i, e := p.x.Find(d, name)
	if e != api.OK {
		return e
	}
	if !p.isDir(i) {
		return api.ErrDirKind
	}
	slots, e := p.x.Slots(i)
	p.ok(e)
	var own []int
	for l, s := range slots {
		if s != (api.Slot{}) {
			return api.ErrTreeFull
		}
		if n := p.sector(api.Place{Dir: i, Slot: l}); slices.Contains(p.c.Dirty(), n) {
			own = append(own, n)
		}
	}
	q := api.Place{Dir: d, Slot: k}
	s := p.sector(q)
	p.set(q, api.Slot{}, own...)
	p.places[i] = nil
	p.ok(p.f.Free(i, s))
	return api.OK
}

// lies tells whether a directory is another one, or lies in it.
func (p *plain) lies(d, i int) bool {
	for d != i && d != 1 {
		d = p.places[d][0].Dir
	}
	return d == i
}

func (p *plain) rename(from int, old string, to int, name string) api.Errno {
	p.Helper()
	k, i, e := p.x.Find(from, old)
	if e != api.OK {
		return e
	}
	if e := path.Check(name); e != api.OK {
		return e
	}
	if from == to && old == name {
		return api.OK
	}
	l, j, e := p.x.Find(to, name)
	if e != api.OK && e != api.ErrDirNone {
		return e
	}
	a, b := api.Place{Dir: from, Slot: k}, api.Place{Dir: to, Slot: l}
	if p.isDir(i) {
		return p.renameDir(i, a, to, name, e == api.OK)
	}
	return p.renameFile(i, a, j, b, name, e == api.OK)
}

func (p *plain) renameDir(i int, a api.Place, to int, name string, there bool) api.Errno {
	p.Helper()
	if there {
		return api.ErrDirThere
	}
	if p.lies(to, i) {
		return api.ErrTreeLoop
	}
	q, e := p.slotFor(to)
	if e != api.OK {
		return e
	}
	p.ok(p.c.Sync())
	p.put(i, 2)
	p.set(q, api.Slot{Ino: i, Name: name}, i)
	p.set(a, api.Slot{}, p.shown(q)...)
	p.put(i, 1, p.sector(a))
	p.ok(p.c.Sync())
	p.ok(p.f.Settle())
	p.places[i] = []api.Place{q}
	return api.OK
}

func (p *plain) renameFile(i int, a api.Place, j int, q api.Place, name string, there bool) api.Errno {
	p.Helper()
	if there && p.isDir(j) {
		return api.ErrDirThere
	}
	if j == i {
		return api.OK
	}
	links := p.inode(i).Links
	if links == 100 {
		return api.ErrTreeLinks
	}
	var after []int
	e := p.f.Ensure(0)
	if !there {
		q, e = p.slotFor(q.Dir)
	}
	if e != api.OK {
		return e
	}
	p.put(i, links+1)
	if there {
		after = p.kept(j, q)
	}
	p.set(q, api.Slot{Ino: i, Name: name}, append([]int{i}, after...)...)
	if there {
		p.noPlace(j, q)
	}
	p.places[i] = append(p.places[i], q)
	p.set(a, api.Slot{}, p.kept(i, a)...)
	p.noPlace(i, a)
	p.put(i, links, p.sector(a))
	if there && len(p.places[j]) > 0 {
		p.put(j, p.inode(j).Links-1, p.sector(q))
	} else if there {
		p.ok(p.f.Free(j, p.sector(q)))
	}
	return api.OK
}

// state tells all of it.
func (p *plain) state() state {
	p.Helper()
	x := state{p.d.Image(), p.d.Writes(), nil, p.c.Dirty(), p.c.Edges(), p.f.Room()}
	for n := range p.d.Len() {
		s, e := p.c.Read(n)
		p.ok(e)
		x.read = append(x.read, s)
	}
	return x
}
