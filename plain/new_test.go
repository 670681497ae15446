package plain_test

import (
	"testing"

	"breakwater/api"
	"breakwater/plain"
)

func TestSizes(t *testing.T) { // P16.1: just those that a super may have
	for _, x := range []struct {
		sectors, inodes int
		want            api.Errno
	}{
		{8, 1, api.OK}, {8, 6, api.OK}, {9, 7, api.OK}, {40, 38, api.OK}, {4096, 1, api.OK}, {4096, 512, api.OK}, {513, 511, api.OK}, {514, 512, api.OK},
		{7, 1, api.ErrPlainSize}, {7, 5, api.ErrPlainSize}, {3, 1, api.ErrPlainSize}, {4097, 1, api.ErrPlainSize}, {4097, 512, api.ErrPlainSize},
		{8, 7, api.ErrPlainSize}, {9, 8, api.ErrPlainSize}, {40, 39, api.ErrPlainSize}, {40, 40, api.ErrPlainSize}, {513, 512, api.ErrPlainSize},
		{40, 0, api.ErrPlainSize}, {40, -1, api.ErrPlainSize}, {8, 0, api.ErrPlainSize}, {4096, 0, api.ErrPlainSize}, {4096, 513, api.ErrPlainSize}, {515, 513, api.ErrPlainSize},
		{0, 0, api.ErrPlainSize}, {0, -2, api.ErrPlainSize}, {-1, 1, api.ErrPlainSize}, {minInt, 1, api.ErrPlainSize}, {maxInt, 1, api.ErrPlainSize},
		{40, minInt, api.ErrPlainSize}, {40, maxInt, api.ErrPlainSize}, {40, maxInt - 1, api.ErrPlainSize}, {minInt, minInt, api.ErrPlainSize}, {maxInt, maxInt, api.ErrPlainSize},
		{1<<32 + 40, 8, api.ErrPlainSize}, {40, 1<<32 + 8, api.ErrPlainSize},
	} {
		if p, e := plain.New(x.sectors, x.inodes); e != x.want || (p == nil) != (e != api.OK) {
			t.Errorf("New(%d, %d): %v, %d, want %d", x.sectors, x.inodes, p, e, x.want)
		}
	}
}

func TestNew(t *testing.T) { // P16.1, P16.3: the root has no slots, and all else is free
	for _, x := range [][2]int{{8, 1}, {8, 6}, {40, 8}, {4096, 1}, {4096, 512}} {
		r := rigOf(t, x[0], x[1])
		r.room(x[0]-1-x[1], x[1]-1)
		r.stats("/", api.Stat{Ino: 1, Kind: api.KindDir, Links: 1})
		r.lists("/")
	}
}

func TestTheLeastOnes(t *testing.T) { // P16.1, P16.2: with the root's inode alone nothing can be made; with one data sector one name
	r := rigOf(t, 8, 1)
	r.no(create("/a"), api.ErrSpaceInodes)
	r.no(mkdir("/a"), api.ErrSpaceInodes)
	r = rigOf(t, 8, 6)
	r.made(create("/a"), 2)
	r.room(0, 4)
	r.no(create("/b"), api.ErrSpaceBlocks)
	r.no(write("/a", 0, sevens(1)), api.ErrSpaceBlocks)
	r.ok(truncate("/a", api.MaxFile), unlink("/a"))
	r.made(mkdir("/b"), 2) // the slot stays, and is taken again
	r.no(create("/b/c"), api.ErrSpaceBlocks)
}
