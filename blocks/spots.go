package blocks

import (
	"iter"

	"breakwater/api"
)

// row is one of blocks' pointers, and the index of the first.
type row struct {
	first    int
	pointers []int
}

// there goes through the pointers that are not 0, by their places.
func there(pointers []int) iter.Seq2[int, int] {
	return func(yield func(int, int) bool) {
		for at, n := range pointers {
			if n != 0 && !yield(at, n) {
				return
			}
		}
	}
}

// rows goes through all of an inode's, by rising index. Each table is read when its turn has come; whoever goes through them leaves at an error.
func rows(r Reader, x api.Inode) iter.Seq2[row, api.Errno] {
	return func(yield func(row, api.Errno) bool) {
		// read hands on the row that a table has, and tells whether to go on.
		read := func(first, n int) bool {
			pointers, e := table(r, n)
			return yield(row{first, pointers[:]}, e)
		}
		if !yield(row{0, x.Direct[:]}, api.OK) {
			return
		}
		if x.Single != 0 && !read(singleFirst, x.Single) {
			return
		}
		if x.Double == 0 {
			return
		}
		double, e := table(r, x.Double)
		if e != api.OK {
			yield(row{}, e)
			return
		}
		for at, n := range there(double[:]) {
			if !read(doubleFirst+at*api.PerSector, n) {
				return
			}
		}
	}
}

// spots goes through the blocks that are there, by rising index; an error is the last that comes.
func spots(r Reader, x api.Inode) iter.Seq2[api.Spot, api.Errno] {
	return func(yield func(api.Spot, api.Errno) bool) {
		for p, e := range rows(r, x) {
			if e != api.OK {
				yield(api.Spot{}, e)
				return
			}
			for at, n := range there(p.pointers) {
				if !yield(api.Spot{Index: p.first + at, Sector: n}, api.OK) {
					return
				}
			}
		}
	}
}
