package look

import (
	"breakwater/api"
	"breakwater/layout"
	"breakwater/sector"
)

// The first blocks whose pointers stand in tables.
const (
	singleFirst = api.Direct
	doubleFirst = api.Direct + api.PerSector
)

// keeps tells whether a pointer stays: that of the block of an index, or of the table whose first block that is.
type keeps func(index, n int) bool

// claim tells whether a pointer is good, and claims it then.
func (l *looking) claim(n int) bool {
	if _, is := l.claimed[n]; is || !layout.IsData(l.super, n) {
		return false
	}
	l.claimed[n] = struct{}{}
	return true
}

// takeUp is an inode with the pointers that are left to it, and no entry so far.
func (l *looking) takeUp(x api.Inode) api.Inode {
	x.Links = 0
	var spots []api.Spot
	count := (x.Size + api.SectorSize - 1) / api.SectorSize
	block := func(index, n int) bool {
		// The index first: what leads behind the end claims nothing.
		if index >= count || !l.claim(n) {
			return false
		}
		spots = append(spots, api.Spot{Index: index, Sector: n})
		return true
	}
	// A table's pointers lead each to so many blocks.
	table := func(each int, keep keeps) keeps {
		return func(from, n int) bool {
			return from < count && l.claim(n) && l.goThrough(n, func(k, p int) bool { return keep(from+each*k, p) })
		}
	}
	single := table(1, block)
	double := table(api.PerSector, single)
	for k, n := range x.Direct {
		x.Direct[k] = left(block, k, n)
	}
	x.Single = left(single, singleFirst, x.Single)
	x.Double = left(double, doubleFirst, x.Double)
	if x.Kind == api.KindDir {
		l.wait(sectorsOf(spots))
	} else {
		l.wipe(x.Size, spots)
	}
	return x
}

// left is what becomes of a pointer.
func left(keep keeps, index, n int) int {
	if keep(index, n) {
		return n
	}
	return 0
}

// goThrough goes through a table that is claimed, and tells whether a pointer is left. If none is, somebody else may claim its sector, which stays as it was for that.
func (l *looking) goThrough(at int, keep keeps) bool {
	table := layout.ReadPointers(l.want[at])
	for k, n := range table {
		table[k] = left(keep, k, n)
	}
	if table == (api.Pointers{}) {
		delete(l.claimed, at)
		return false
	}
	// It is not refused: it was read, and has lost pointers alone.
	l.want[at], _ = layout.PointersSector(table)
	return true
}

// sectorsOf are those of spots.
func sectorsOf(spots []api.Spot) []int {
	var list []int
	for _, s := range spots {
		list = append(list, s.Sector)
	}
	return list
}

// wipe wipes what a file's last block has behind the file's size. The spots are by rising index.
func (l *looking) wipe(size int, spots []api.Spot) {
	rest := size % api.SectorSize
	if rest == 0 || len(spots) == 0 {
		return
	}
	last := spots[len(spots)-1]
	if last.Index != size/api.SectorSize {
		return
	}
	l.want[last.Sector] = sector.Wipe(l.want[last.Sector], rest)
	l.wiped[last.Sector] = struct{}{}
}
