package tree

import (
	"slices"

	"breakwater/api"
)

// addPlace notes an inode's newest place.
func (t *Tree) addPlace(i int, p api.Place) { t.places[i] = append(t.places[i], p) }

// dropPlace lets a place be an inode's no more. One without any has no key: its number may be another's soon.
func (t *Tree) dropPlace(i int, p api.Place) {
	left := t.otherPlaces(i, p)
	if len(left) == 0 {
		delete(t.places, i)
		return
	}
	t.places[i] = left
}

// otherPlaces are those of an inode but one.
func (t *Tree) otherPlaces(i int, p api.Place) []api.Place {
	return slices.DeleteFunc(slices.Clone(t.places[i]), func(q api.Place) bool { return q == p })
}

// home is a directory's own place. The root has none.
func (t *Tree) home(d int) (api.Place, bool) {
	list := t.places[d]
	if d == api.Root || len(list) == 0 {
		return api.Place{}, false
	}
	return list[0], true
}

// isWithin tells whether a directory is another one, or lies in it. No way up is longer than there are inodes, but in a ring, as a disk that was not put right may have one.
func (t *Tree) isWithin(d, outer int) bool {
	for range api.MaxInodes {
		if d == outer {
			return true
		}
		p, is := t.home(d)
		if !is {
			return false
		}
		d = p.Dir
	}
	return false
}

// kept are the dirty sectors without which an inode is not found from the root by its other places.
func (t *Tree) kept(i int, p api.Place) ([]int, api.Errno) {
	s := sight{t, map[int]struct{}{}, nil}
	for _, q := range t.otherPlaces(i, p) {
		if e := s.show(q); e != api.OK {
			return nil, e
		}
	}
	return s.sectors, api.OK
}

// sight gathers the dirty sectors without which entries are not found from the root.
type sight struct {
	tree    *Tree
	passed  map[int]struct{} // directories from which the way up was gone already: it has nothing new
	sectors []int
}

// show gathers those of the entry at a place, and then, upwards, those of its directory.
func (s *sight) show(p api.Place) api.Errno {
	some, e := s.tree.dirs.Visible(p.Dir, p.Slot)
	if e != api.OK {
		return e
	}
	s.sectors = append(s.sectors, some...)
	up, is := s.tree.home(p.Dir)
	if _, passed := s.passed[p.Dir]; passed || !is {
		return api.OK
	}
	s.passed[p.Dir] = struct{}{}
	return s.show(up)
}
