package fsck_test

import (
	"slices"
	"testing"

	"breakwater/api"
	"breakwater/disk"
	"breakwater/layout"
)

// draft is an image that is being laid.
type draft struct {
	*testing.T
	image []api.Sector
}

// draftOf is one with a first sector, and nothing else.
func draftOf(t *testing.T, sectors, inodes int) *draft {
	t.Helper()
	d := &draft{t, make([]api.Sector, sectors)}
	d.put(0)(layout.SuperSector(api.Super{Sectors: sectors, Inodes: inodes}))
	return d
}

// small is one of the chapter's examples: 16 sectors, 4 inodes (data sectors 5 to 15), and this root.
func small(t *testing.T, root api.Inode) *draft {
	t.Helper()
	d := draftOf(t, 16, 4)
	d.inode(1, root)
	return d
}

// put lays what a layout made.
func (d *draft) put(n int) func(api.Sector, api.Errno) {
	return func(s api.Sector, e api.Errno) {
		d.Helper()
		if e != api.OK {
			d.Fatalf("sector %d can not be laid: %d", n, e)
		}
		d.image[n] = s
	}
}

func (d *draft) inode(i int, x api.Inode) { d.put(i)(layout.InodeSector(x)) }

func (d *draft) slot(n, i int, name string) {
	d.put(n)(layout.SlotSector(api.Slot{Ino: i, Name: name}))
}

func (d *draft) table(n int, p api.Pointers) { d.put(n)(layout.PointersSector(p)) }

func (d *draft) bytes(n int, text string) { copy(d.image[n][:], text) }

// disk is one that has the image, and of which nothing was written.
func (d *draft) disk() *disk.Disk {
	d.Helper()
	return diskOf(d.T, d.image)
}

func diskOf(t *testing.T, image []api.Sector) *disk.Disk {
	t.Helper()
	d, e := disk.From(image)
	if e != api.OK {
		t.Fatalf("disk.From: %d", e)
	}
	return d
}

// root is a directory with these slots' sectors.
func root(direct ...int) api.Inode {
	x := api.Inode{Kind: api.KindDir, Links: 1, Size: 128 * len(direct)}
	copy(x.Direct[:], direct)
	return x
}

// file is one of that size, with these blocks.
func file(size int, direct ...int) api.Inode {
	x := api.Inode{Kind: api.KindFile, Links: 1, Size: size}
	copy(x.Direct[:], direct)
	return x
}

// linked is an inode that tells other links.
func linked(x api.Inode, links int) api.Inode {
	x.Links = links
	return x
}

func list(n ...int) []int { return n }

// hello is the chapter's example: a root that tells too many links, and a file with bytes behind its end.
func hello(t *testing.T) *draft {
	t.Helper()
	d := small(t, linked(root(5), 7))
	d.slot(5, 2, "a")
	d.inode(2, file(3, 6))
	d.bytes(6, "hello")
	return d
}

// mixed is an image of which sectors of all three rows are to be written: 11 13 30 33, 3 6 7 8, 10 34.
func mixed(t *testing.T) *draft {
	t.Helper()
	d := draftOf(t, 40, 8)
	d.inode(1, root(20, 21, 12, 13))
	d.slot(20, 6, "d")
	d.slot(21, 3, "f")
	d.slot(12, 4, "g")
	d.slot(13, 99, "none")
	x := linked(root(30), 9)
	x.Size, x.Single = 128*14, 11
	d.inode(6, x)
	d.table(11, api.Pointers{99, 31})
	d.bytes(30, "no slot")
	d.inode(3, linked(file(129, 32, 10), 4))
	d.bytes(10, "tail")
	y := file(1700)
	y.Single = 33
	d.inode(4, y)
	d.table(33, api.Pointers{9, 34, 35})
	d.bytes(34, "some bytes that are more than thirty-six of them in all")
	d.bytes(7, "no inode")
	d.inode(8, file(3))
	return d
}

// great is an image of the greatest size: of each of its 511 files the slot's name, the links or the tail are wrong; and what is to be written.
func great(t *testing.T) (*draft, []int) {
	t.Helper()
	const first = 513
	d := draftOf(t, 4096, 512)
	top := root()
	top.Size, top.Double = 128*(44+511), first
	var double api.Pointers
	var slots, inodes, tails []int
	for k := range 16 {
		double[k] = first + 1 + k
	}
	tables := make([]api.Pointers, 16)
	for k := range 511 {
		slot, tail, i := 1000+k, 2000+k, 2+k
		tables[k/32][k%32] = slot
		d.bytes(tail, "abcd")
		d.inode(i, linked(file(3, tail), 1+k%2))
		switch k % 3 {
		case 0:
			d.slot(slot, 1, "root")
			slots, inodes = append(slots, slot), append(inodes, i)
		default:
			d.slot(slot, i, string([]byte{'a' + byte(k%16), 'a' + byte(k/16)}))
			tails = append(tails, tail)
			if k%2 == 1 {
				inodes = append(inodes, i)
			}
		}
	}
	d.inode(1, top)
	d.table(first, double)
	for k, p := range tables {
		d.table(double[k], p)
	}
	return d, slices.Concat(slots, inodes, tails)
}
