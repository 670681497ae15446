package fs_test

import (
	"encoding/binary"
	"fmt"

	"breakwater/api"
	"breakwater/layout"
)

// image is what stands on a disk.
type image []api.Sector

// inodes tells how many there are.
func (m image) inodes() int { return int(binary.LittleEndian.Uint32(m[0][8:])) }

// isData tells whether a pointer leads to a data sector.
func (m image) isData(n int) bool { return n > m.inodes() && n < len(m) }

// table reads one; it has no pointers, if it is none of the image's.
func (m image) table(n int) api.Pointers {
	if !m.isData(n) {
		return api.Pointers{}
	}
	return layout.ReadPointers(m[n])
}

// blocks are the pointers to an inode's blocks by their indexes, and those to its tables.
func (m image) blocks(x api.Inode) (map[int]int, []int) {
	there := map[int]int{}
	var tables []int
	note := func(first int, pointers []int) {
		for k, n := range pointers {
			if n != 0 {
				there[first+k] = n
			}
		}
	}
	note(0, x.Direct[:])
	if x.Single != 0 {
		tables = append(tables, x.Single)
		single := m.table(x.Single)
		note(12, single[:])
	}
	if x.Double != 0 {
		tables = append(tables, x.Double)
		for k, n := range m.table(x.Double) {
			if n != 0 {
				tables = append(tables, n)
				inner := m.table(n)
				note(44+32*k, inner[:])
			}
		}
	}
	return there, tables
}

// slots are those of a directory that are there, by their places; not: one of them is none.
func (m image) slots(x api.Inode) (list map[int]api.Slot, not string) {
	list = map[int]api.Slot{}
	there, _ := m.blocks(x)
	for k, n := range there {
		if k >= x.Size/128 {
			continue
		}
		s, e := layout.ReadSlot(m[n])
		if e != api.OK {
			return nil, fmt.Sprintf("slot %d, at %d, is none", k, n)
		}
		if s.Ino != 0 {
			list[k] = s
		}
	}
	return list, ""
}

// looking is a way through what can be reached from an image's root.
type looking struct {
	image
	reached []int
	inodes  map[int]api.Inode
	entries map[int]int // by inodes
	claimed map[int]int // by sectors: the inode that points to it
}

// unsound tells why what can be reached from an image's root is not sound (W2); nothing, if it is. If moving, one directory may have two entries.
func unsound(m image, moving bool) string {
	l := &looking{image: m, inodes: map[int]api.Inode{}, entries: map[int]int{}, claimed: map[int]int{}}
	if why := l.reach(1); why != "" {
		return why
	}
	if l.inodes[1].Kind != api.KindDir {
		return "the root is no directory"
	}
	for at := 0; at < len(l.reached); at++ {
		if why := l.directory(l.reached[at]); why != "" {
			return fmt.Sprintf("directory %d: %s", l.reached[at], why)
		}
	}
	doubles := 0
	for i, x := range l.inodes {
		n := l.entries[i]
		if x.Links < n {
			return fmt.Sprintf("inode %d has %d entries, and tells %d", i, n, x.Links)
		}
		if x.Kind == api.KindDir && n > 1 {
			doubles += n - 1
		}
	}
	if doubles > 1 || doubles == 1 && !moving {
		return fmt.Sprintf("directories have %d entries too many", doubles)
	}
	return ""
}

// reach looks at an inode that is met for the first time.
func (l *looking) reach(i int) string {
	if i < 1 || i > l.image.inodes() {
		return fmt.Sprintf("there is no inode %d", i)
	}
	x, e := layout.ReadInode(l.image[i])
	if e != api.OK || x.Kind == api.KindFree {
		return fmt.Sprintf("inode %d is none", i)
	}
	l.inodes[i] = x
	l.reached = append(l.reached, i)
	there, pointers := l.blocks(x)
	for _, n := range there {
		pointers = append(pointers, n)
	}
	for _, n := range pointers {
		if !l.isData(n) {
			return fmt.Sprintf("inode %d points to %d", i, n)
		}
		if l.claimed[n] != 0 {
			return fmt.Sprintf("inodes %d and %d both point to %d", l.claimed[n], i, n)
		}
		l.claimed[n] = i
	}
	return ""
}

// directory looks at the slots of an inode that was reached, if it is a directory.
func (l *looking) directory(d int) string {
	x := l.inodes[d]
	if x.Kind != api.KindDir {
		return ""
	}
	slots, not := l.slots(x)
	if not != "" {
		return not
	}
	names := map[string]int{}
	for k, s := range slots {
		names[s.Name]++
		if names[s.Name] > 1 {
			return fmt.Sprintf("the name %q stands twice", s.Name)
		}
		if s.Ino == 1 {
			return fmt.Sprintf("slot %d names the root", k)
		}
		l.entries[s.Ino]++
		if _, known := l.inodes[s.Ino]; known {
			continue
		}
		if why := l.reach(s.Ino); why != "" {
			return why
		}
	}
	return ""
}
