package dir

import (
	"slices"

	"breakwater/api"
	"breakwater/blocks"
	"breakwater/cache"
)

// Visible are the sectors without which a slot is not seen, as far as they are dirty.
func (x *Dirs) Visible(d, k int) ([]int, api.Errno) {
	inode, e := x.directory(d)
	if e != api.OK {
		return nil, e
	}
	way := &noting{cache: x.cache}
	n, e := blocks.Find(way, inode, k)
	if e != api.OK {
		return nil, e
	}
	slices.Reverse(way.asked)
	return x.dirtyOf(slices.Concat([]int{n}, way.asked, []int{d})), api.OK
}

// noting reads a cache, and notes what it was asked for: by whoever finds a block, the tables on its way, the inode's first.
type noting struct {
	cache *cache.Cache
	asked []int
}

// Read tells a sector.
func (r *noting) Read(n int) (api.Sector, api.Errno) {
	r.asked = append(r.asked, n)
	return r.cache.Read(n)
}
