package dir_test

import (
	"testing"

	"breakwater/api"
)

func TestVisibleWriteByWrite(t *testing.T) { // P11.7: ahead of, between and behind the writes of each sector on the way
	for _, c := range []struct {
		k   int
		way []int // the block, the tables upwards, the inode
	}{
		{0, []int{5, 1}}, {11, []int{5, 1}},
		{12, []int{5, 6, 1}}, {43, []int{5, 6, 1}},
		{44, []int{5, 6, 7, 1}}, {75, []int{5, 6, 7, 1}}, {76, []int{5, 6, 7, 1}}, {1067, []int{5, 6, 7, 1}},
	} {
		r := begin(t)
		r.visible(1, c.k)
		r.set(1, c.k, of(2, "a"))
		for at, n := range c.way {
			r.visible(1, c.k, c.way[at:]...)
			r.flush(n)
		}
		r.visible(1, c.k)
		r.set(1, c.k, of(2, "b")) // its sector alone
		r.visible(1, c.k, 5)
		r.set(1, c.k, none)
		r.visible(1, c.k, 5)
		r.flush(5)
		r.visible(1, c.k)
	}
}

func TestVisibleOfHoles(t *testing.T) { // P11.7: the tables on the way, as far as there are some, and the inode
	r := rigOf(t, 64, 4)
	r.set(1, 12, of(2, "a")) // 5, its table 6
	r.set(1, 44, of(2, "b")) // 7, its table 8, the double one 9
	r.visible(1, 0, 1)
	r.visible(1, 11, 1)
	r.visible(1, 13, 6, 1)
	r.visible(1, 43, 6, 1)
	r.visible(1, 45, 8, 9, 1)
	r.visible(1, 75, 8, 9, 1)
	r.visible(1, 76, 9, 1)
	r.visible(1, 1067, 9, 1)
	r.sync()
	for _, k := range []int{0, 11, 13, 43, 45, 75, 76, 1067} {
		r.visible(1, k)
	}
	r.set(1, 45, of(2, "c")) // 10
	r.visible(1, 45, 10, 8, 1)
	r.visible(1, 44, 8, 1)
	r.visible(1, 76, 1) // the size has grown
	r.flush(10, 8)
	r.set(1, 76, of(2, "d")) // 11, its table 12
	r.visible(1, 76, 11, 12, 9, 1)
	r.visible(1, 44, 9, 1)
	r.visible(1, 12, 1)
}

func TestVisibleByTheInodeAlone(t *testing.T) { // P11.7: I(d) is told if it is dirty, for whatever reason
	r := with(t, 40, of(2, "a"))
	x, e := r.f.Inode(1)
	r.is("Inode", e, api.OK)
	x.Links = 2
	r.is("Put", r.f.Put(1, x), api.OK)
	r.visible(1, 0, 1)
	r.visible(1, 1000, 1)
	r.is("Drop", r.c.Drop(1), api.OK)
	r.visible(1, 0)
	r.is("second", second(r), api.OK)
	r.visible(3, 0, 3)
	r.visible(1, 0)
}

func TestVisibleIsNotSorted(t *testing.T) { // P11.7: in the order of the way, whatever the numbers are
	d := begin(t).d
	write(t, d, 1, inodeSector(t, api.Inode{Kind: api.KindDir, Links: 1, Size: 45 * 128, Direct: [12]int{39}, Single: 9, Double: 5}))
	write(t, d, 9, pointersSector(map[int]int{0: 20}))
	write(t, d, 5, pointersSector(map[int]int{0: 30}))
	write(t, d, 30, pointersSector(map[int]int{0: 7}))
	r := rigOn(t, d, 4, []int{1, 2}, []int{5, 7, 9, 20, 30, 39})
	for _, n := range []int{1, 5, 7, 9, 20, 30, 39} {
		s, _ := r.c.Read(n)
		r.is("cache.Put", r.c.Put(n, s), api.OK)
	}
	r.visible(1, 0, 39, 1)
	r.visible(1, 12, 20, 9, 1)
	r.visible(1, 44, 7, 30, 5, 1)
	r.sector(1, 44, 7)
	r.sector(1, 12, 20)
	r.sector(1, 0, 39)
}
