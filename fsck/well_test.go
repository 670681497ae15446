package fsck_test

import (
	"fmt"

	"breakwater/api"
	"breakwater/layout"
)

// pointer is one that is not 0: where it leads, and the first block to which it does.
type pointer struct {
	to, first int
	table     bool
}

// reach adds a pointer, and those to which it leads through so many tables.
func reach(image []api.Sector, list []pointer, to, first, tables int) []pointer {
	if to == 0 {
		return list
	}
	list = append(list, pointer{to, first, tables > 0})
	if tables == 0 || to >= len(image) {
		return list
	}
	each := []int{1, 1, 32}[tables]
	for k, next := range layout.ReadPointers(image[to]) {
		list = reach(image, list, next, first+each*k, tables-1)
	}
	return list
}

// pointersOf are all of an inode and of its tables, by rising blocks.
func pointersOf(image []api.Sector, x api.Inode) []pointer {
	var list []pointer
	for k, to := range x.Direct {
		list = reach(image, list, to, k, 0)
	}
	list = reach(image, list, x.Single, 12, 1)
	return reach(image, list, x.Double, 44, 2)
}

// well is a check of an image, part by part.
type well struct {
	image   []api.Sector
	super   api.Super
	inodes  map[int]api.Inode // in use
	claimed map[int]bool
	entries map[int]int
	reached map[int]bool
}

// ill tells why an image is not well-formed (chapter 12); nothing, if it is.
func ill(image []api.Sector) string {
	if len(image) < 8 || len(image) > 4096 {
		return fmt.Sprintf("%d sectors", len(image))
	}
	super, e := layout.ReadSuper(image[0])
	if e != api.OK || super.Sectors != len(image) {
		return "the first sector is none"
	}
	w := &well{image, super, map[int]api.Inode{}, map[int]bool{}, map[int]int{1: 1}, map[int]bool{}}
	for _, part := range []func() string{w.illInodes, w.illPointers, w.illSlots, w.illEntries, w.illTails} {
		if why := part(); why != "" {
			return why
		}
	}
	return ""
}

func (w *well) illInodes() string {
	for i := 1; i <= w.super.Inodes; i++ {
		x, e := layout.ReadInode(w.image[i])
		if e != api.OK {
			return fmt.Sprintf("inode %d can not be read", i)
		}
		if x.Kind != api.KindFree {
			w.inodes[i] = x
		}
	}
	if w.inodes[1].Kind != api.KindDir {
		return "the root is no directory"
	}
	return ""
}

func (w *well) illPointers() string {
	for i, x := range w.inodes {
		for _, p := range pointersOf(w.image, x) {
			if 128*p.first >= x.Size || p.to <= w.super.Inodes || p.to >= len(w.image) || w.claimed[p.to] || p.table && w.image[p.to] == (api.Sector{}) {
				return fmt.Sprintf("inode %d: %+v", i, p)
			}
			w.claimed[p.to] = true
		}
	}
	return ""
}

func (w *well) illSlots() string {
	for i, x := range w.inodes {
		names := map[string]bool{}
		for _, p := range pointersOf(w.image, x) {
			if x.Kind != api.KindDir || p.table {
				continue
			}
			s, e := layout.ReadSlot(w.image[p.to])
			if e != api.OK || s.Ino == 1 || names[s.Name] && s.Ino != 0 {
				return fmt.Sprintf("directory %d: slot %d: %+v, %d", i, p.first, s, e)
			}
			names[s.Name] = true
		}
	}
	return ""
}

// visit counts the entries that are reached from an inode on.
func (w *well) visit(i int) {
	if w.reached[i] {
		return
	}
	w.reached[i] = true
	for _, p := range pointersOf(w.image, w.inodes[i]) {
		if w.inodes[i].Kind != api.KindDir || p.table {
			continue
		}
		if s, _ := layout.ReadSlot(w.image[p.to]); s.Ino != 0 {
			w.entries[s.Ino]++
			w.visit(s.Ino)
		}
	}
}

func (w *well) illEntries() string {
	w.visit(1)
	for i, n := range w.entries {
		x, is := w.inodes[i]
		if !is || n != x.Links || n > 100 || n > 1 && x.Kind == api.KindDir {
			return fmt.Sprintf("inode %d has %d entries, and is %+v", i, n, x)
		}
	}
	if len(w.reached) != len(w.inodes) {
		return fmt.Sprintf("%d inodes of %d are reached", len(w.reached), len(w.inodes))
	}
	return ""
}

func (w *well) illTails() string {
	for i, x := range w.inodes {
		for _, p := range pointersOf(w.image, x) {
			if x.Kind == api.KindDir || p.table {
				continue
			}
			for at := range 128 {
				if 128*p.first+at >= x.Size && w.image[p.to][at] != 0 {
					return fmt.Sprintf("file %d has bytes behind its end", i)
				}
			}
		}
	}
	return ""
}
