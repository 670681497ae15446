package tree_test

import (
	"maps"
	"slices"
	"testing"

	"breakwater/api"
	"breakwater/disk"
	"breakwater/layout"
)

// drawn are the slots of directories, by their inodes. All others that these name are files.
type drawn map[int][]api.Slot

// of is a slot.
func of(i int, name string) api.Slot { return api.Slot{Ino: i, Name: name} }

// links tells how many slots name an inode; of the root 1.
func (x drawn) links(i int) int {
	if i == 1 {
		return 1
	}
	n := 0
	for _, slots := range x {
		for _, s := range slots {
			if s.Ino == i {
				n++
			}
		}
	}
	return n
}

// inodes are all that are told of, rising.
func (x drawn) inodes() []int {
	all := map[int]int{}
	for d, slots := range x {
		all[d]++
		for _, s := range slots {
			if s.Ino != 0 {
				all[s.Ino]++
			}
		}
	}
	return slices.Sorted(maps.Keys(all))
}

// on lays these directories and files on a disk, and tells the report of it.
func (x drawn) on(t *testing.T, sectors, inodes int) (*disk.Disk, api.Report) {
	t.Helper()
	d := diskOf(t, sectors, inodes)
	r := api.Report{Inodes: x.inodes()}
	for _, i := range r.Inodes {
		if i > inodes {
			continue
		}
		inode := api.Inode{Kind: api.KindFile, Links: x.links(i)}
		if slots, is := x[i]; is {
			inode.Kind, inode.Size = api.KindDir, 128*len(slots)
			r.Blocks = layDir(t, d, &inode, slots, inodes+1+len(r.Blocks), r.Blocks)
		}
		write(t, d, i, inodeSector(t, inode))
	}
	return d, r
}

// layDir lays a directory's slots and tables, from a sector on, and notes which these are.
func layDir(t *testing.T, d *disk.Disk, x *api.Inode, slots []api.Slot, next int, used []int) []int {
	t.Helper()
	take := func() int {
		next++
		used = append(used, next-1)
		return next - 1
	}
	tables := map[int]*api.Pointers{}
	enter := func(at *int, place, n int) {
		if *at == 0 {
			*at = take()
			tables[*at] = &api.Pointers{}
		}
		tables[*at][place] = n
	}
	for k, s := range slots {
		n := take()
		write(t, d, n, slotSector(t, s.Ino, s.Name))
		switch j := k - 44; {
		case k < 12:
			x.Direct[k] = n
		case k < 44:
			enter(&x.Single, k-12, n)
		default:
			if x.Double == 0 {
				x.Double = take()
				tables[x.Double] = &api.Pointers{}
			}
			enter(&tables[x.Double][j/32], j%32, n)
		}
	}
	for n, p := range tables {
		s, e := layout.PointersSector(*p)
		if e != api.OK {
			t.Fatalf("PointersSector: %d", e)
		}
		write(t, d, n, s)
	}
	return used
}

// rigWith is a tree on a disk that has these.
func rigWith(t *testing.T, sectors, inodes int, x drawn) *rig {
	t.Helper()
	d, r := x.on(t, sectors, inodes)
	return rigOn(t, d, r.Inodes, r.Blocks)
}

// full is a directory with so many entries, of files from an inode on, each of which has 80 of them at most.
func full(entries, from int) []api.Slot {
	var list []api.Slot
	for k := range entries {
		list = append(list, of(from+k/80, count(k)))
	}
	return list
}
