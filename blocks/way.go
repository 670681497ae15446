package blocks

import (
	"breakwater/api"
	"breakwater/layout"
)

// part is a sector that a file may have, named by what it is for, so that it has a name ahead of its sector: a block (height 0), a table of blocks' pointers (1), the double table (2); first is the first block that it leads to.
type part struct{ height, first int }

// way is a block's: the pointer with which it begins in the inode, the places at which it goes on in tables, and its parts, which are those tables and the block.
type way struct {
	begin  int
	places []int
	parts  []part
}

// wayOf is the way of a block of an inode.
func wayOf(x api.Inode, index int) (way, api.Errno) {
	depth, i, j, e := Way(index)
	if e != api.OK {
		return way{}, e
	}
	block := part{0, index}
	switch depth {
	case 0:
		return way{x.Direct[i], nil, []part{block}}, api.OK
	case 1:
		return way{x.Single, []int{i}, []part{{1, singleFirst}, block}}, api.OK
	}
	return way{x.Double, []int{i, j}, []part{{2, doubleFirst}, {1, index - j}, block}}, api.OK
}

// follow goes as far as the way goes: the block's sector, or 0 and how many of its parts are there.
func (w way) follow(r Reader) (int, int, api.Errno) {
	n := w.begin
	for gone, place := range w.places {
		if n == 0 {
			return 0, gone, api.OK
		}
		pointers, e := table(r, n)
		if e != api.OK {
			return 0, 0, e
		}
		n = pointers[place]
	}
	return n, len(w.places), api.OK
}

// table reads one.
func table(r Reader, n int) (p api.Pointers, e api.Errno) {
	// A reader is somebody else's: one that panics (a nil pointer within the interface does) is refused as a nil one, for no call of this layer may.
	defer func() {
		if recover() != nil {
			p, e = api.Pointers{}, api.ErrArg
		}
	}()
	s, e := r.Read(n)
	if e != api.OK {
		return api.Pointers{}, e
	}
	return layout.ReadPointers(s), api.OK
}
