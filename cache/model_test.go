package cache_test

import (
	"slices"
	"testing"

	"breakwater/api"
	"breakwater/cache"
	"breakwater/disk"
)

// model is what a cache should have, and its disk, told plainly: contents are numbers, dirty sectors stand in a list, ways are found by joining edges till no more come.
type model struct {
	disk   []int
	writes int
	left   int // writes till the power goes; below 0: it does not
	dirty  []dirtyOne
	edges  []api.Edge
	landed []int
	order  []int // sectors as they were written, since the last call began
}

type dirtyOne struct {
	n, content int
	tags       []int
}

func newModel(size, left int) *model { return &model{disk: make([]int, size), left: left} }

func (m *model) at(n int) int {
	return slices.IndexFunc(m.dirty, func(o dirtyOne) bool { return o.n == n })
}

func (m *model) isDirty(n int) bool { return m.at(n) >= 0 }

func (m *model) isFree(n int) bool {
	return !slices.ContainsFunc(m.edges, func(e api.Edge) bool { return e.Post == n })
}

// before are all from which there is a way to n, rising.
func (m *model) before(n int) []int {
	var found []int
	for more := true; more; {
		more = false
		for _, e := range m.edges {
			if (e.Post == n || slices.Contains(found, e.Post)) && !slices.Contains(found, e.Pre) {
				found = append(found, e.Pre)
				more = true
			}
		}
	}
	slices.Sort(found)
	return found
}

func (m *model) list() []int {
	var list []int
	for _, o := range m.dirty {
		list = append(list, o.n)
	}
	slices.Sort(list)
	return list
}

func (m *model) eligible() []int {
	return slices.DeleteFunc(m.list(), func(n int) bool { return !m.isFree(n) })
}

func (m *model) allEdges() []api.Edge {
	list := slices.Clone(m.edges)
	slices.SortFunc(list, func(a, b api.Edge) int { return (a.Pre-b.Pre)*10000 + a.Post - b.Post })
	return list
}

func (m *model) drop(n int) {
	m.dirty = slices.DeleteFunc(m.dirty, func(o dirtyOne) bool { return o.n == n })
	m.edges = slices.DeleteFunc(m.edges, func(e api.Edge) bool { return e.Pre == n || e.Post == n })
}

func (m *model) write(n int) bool {
	if m.left == 0 {
		return false
	}
	m.left--
	m.writes++
	m.order = append(m.order, n)
	o := m.dirty[m.at(n)]
	m.disk[n] = o.content
	m.landed = append(m.landed, o.tags...)
	m.drop(n)
	return true
}

// writeOut writes those of a list that are dirty, the least first that may land.
func (m *model) writeOut(list []int) bool {
	for {
		i := slices.IndexFunc(list, func(n int) bool { return m.isDirty(n) && m.isFree(n) })
		if i < 0 {
			return true
		}
		if !m.write(list[i]) {
			return false
		}
	}
}

func (m *model) drain(n int) bool {
	list := append(m.before(n), n)
	slices.Sort(list)
	return m.writeOut(list)
}

func (m *model) put(n, content int, after []int) bool {
	for _, a := range after {
		if a != n && m.isDirty(a) && slices.Contains(m.before(a), n) && !m.drain(n) {
			return false
		}
	}
	if i := m.at(n); i >= 0 {
		m.dirty[i].content = content
	} else {
		m.dirty = append(m.dirty, dirtyOne{n: n, content: content})
	}
	for _, a := range after {
		if e := (api.Edge{Pre: a, Post: n}); a != n && m.isDirty(a) && !slices.Contains(m.edges, e) {
			m.edges = append(m.edges, e)
		}
	}
	return true
}

func (m *model) mark(n, tag int) {
	if i := m.at(n); i >= 0 {
		m.dirty[i].tags = append(m.dirty[i].tags, tag)
	} else {
		m.landed = append(m.landed, tag)
	}
}

func (m *model) has(n int) bool { return n >= 0 && n < len(m.disk) }

// The kinds of calls that are played.
const (
	doPut = iota
	doDrain
	doFlush
	doSync
	doDrop
	doMark
	doLanded
	kinds
)

// call is one that is played on a cache; its number is its place in the play, and is the content, or the tag.
type call struct {
	kind, n, number int
	after           []int
}

// answer is all that a call answers.
type answer struct {
	e    api.Errno
	yes  bool
	list []int
}

func (a answer) equals(b answer) bool {
	return a.e == b.e && a.yes == b.yes && slices.Equal(a.list, b.list)
}

// stamped is a sector that tells a number; 0 is zeros.
func stamped(v int) api.Sector {
	var s api.Sector
	for i := range s {
		s[i] = byte(v >> (i % 4 * 8))
	}
	return s
}

func (k call) of(c *cache.Cache) answer {
	switch k.kind {
	case doPut:
		return answer{e: c.Put(k.n, stamped(k.number), k.after...)}
	case doDrain:
		return answer{e: c.Drain(k.n)}
	case doFlush:
		yes, e := c.Flush(k.n)
		return answer{e: e, yes: yes}
	case doSync:
		return answer{e: c.Sync()}
	case doDrop:
		return answer{e: c.Drop(k.n)}
	case doMark:
		return answer{e: c.Mark(k.n, k.number)}
	}
	return answer{list: c.Landed()}
}

// done is the answer of a call that writes.
func done(all bool) answer {
	if !all {
		return answer{e: api.ErrDiskDown}
	}
	return answer{}
}

func (k call) ofModel(m *model) answer {
	m.order = nil
	if k.kind != doSync && k.kind != doLanded && !m.has(k.n) || slices.ContainsFunc(k.after, func(a int) bool { return !m.has(a) }) {
		return answer{e: api.ErrCachePlace}
	}
	switch k.kind {
	case doPut:
		return done(m.put(k.n, k.number, k.after))
	case doDrain:
		return done(m.drain(k.n))
	case doFlush:
		if !m.isDirty(k.n) || !m.isFree(k.n) {
			return answer{}
		}
		a := done(m.write(k.n))
		a.yes = a.e == api.OK
		return a
	case doSync:
		return done(m.writeOut(m.list()))
	case doDrop:
		m.drop(k.n)
	case doMark:
		m.mark(k.n, k.number)
	case doLanded:
		list := m.landed
		m.landed = nil
		return answer{list: list}
	}
	return answer{}
}

// agree holds all that a cache and its disk tell to a model; what Landed tells is taken by calls alone.
func agree(t *testing.T, d *disk.Disk, c *cache.Cache, m *model) {
	t.Helper()
	sameImage(t, d, m)
	if list := c.Dirty(); !slices.Equal(list, m.list()) {
		t.Errorf("Dirty: %v, want %v", list, m.list())
	}
	if list := c.Eligible(); !slices.Equal(list, m.eligible()) {
		t.Errorf("Eligible: %v, want %v", list, m.eligible())
	}
	if list := c.Edges(); !slices.Equal(list, m.allEdges()) {
		t.Errorf("Edges: %v, want %v", list, m.allEdges())
	}
	for n, stands := range m.disk {
		read := stands
		if i := m.at(n); i >= 0 {
			read = m.dirty[i].content
		}
		if s, e := c.Read(n); s != stamped(read) || e != api.OK {
			t.Errorf("Read(%d): %v, %d; want %d", n, s, e, read)
		}
		if s, e := c.Stands(n); s != stamped(stands) || e != api.OK {
			t.Errorf("Stands(%d): %v, %d; want %d", n, s, e, stands)
		}
	}
}

// sameImage holds a disk to a model's.
func sameImage(t *testing.T, d *disk.Disk, m *model) {
	t.Helper()
	for n, s := range d.Image() {
		if s != stamped(m.disk[n]) {
			t.Errorf("sector %d has %v, want %d", n, s, m.disk[n])
		}
	}
	if d.Writes() != m.writes {
		t.Errorf("Writes: %d, want %d", d.Writes(), m.writes)
	}
}

// steps answers numbers below a limit, the same ones in every run.
func steps(seed uint32) func(limit int) int {
	return func(limit int) int {
		seed = seed*1664525 + 1013904223
		return int(seed>>8) % limit
	}
}

// someCalls are calls for a disk of a size; wrong ones among them, if so.
func someCalls(next func(int) int, size, count int, wrong bool) []call {
	sector := func() int {
		if wrong && next(25) == 0 {
			return []int{-1, size}[next(2)]
		}
		return next(size)
	}
	var list []call
	for i := range count {
		k := call{kind: next(kinds), n: sector(), number: i + 1}
		// Most are Puts, and few take all away.
		if k.kind == doSync && next(4) > 0 || k.kind == doDrain && next(2) > 0 || k.kind == doFlush && next(2) > 0 {
			k.kind = doPut
		}
		if k.kind == doPut {
			for range next(5) {
				k.after = append(k.after, sector())
			}
		}
		list = append(list, k)
	}
	return list
}
