package layout_test

import (
	"encoding/binary"
	"strings"

	"breakwater/api"
)

// What the chapter says of sectors, written anew by bytes: the tests hold the program against it.

// from is a sector of these bytes, by their places.
func from(parts map[int]string) api.Sector {
	var s api.Sector
	for at, b := range parts {
		copy(s[at:], b)
	}
	return s
}

// four and eight are the numbers that stand at a place.
func four(s api.Sector, at int) uint64  { return uint64(binary.LittleEndian.Uint32(s[at:])) }
func eight(s api.Sector, at int) uint64 { return binary.LittleEndian.Uint64(s[at:]) }

// zeroFrom tells whether all bytes from a place on are 0.
func zeroFrom(s api.Sector, at int) bool {
	return strings.Trim(string(s[at:]), "\x00") == ""
}

func plainSuper(x api.Super) (api.Sector, bool) {
	switch {
	case x.Sectors < 8, x.Sectors > 4096, x.Inodes < 1, x.Inodes > 512, x.Inodes > x.Sectors-2:
		return api.Sector{}, false
	}
	s := from(map[int]string{0: "BRKW"})
	binary.LittleEndian.PutUint32(s[4:], uint32(x.Sectors))
	binary.LittleEndian.PutUint32(s[8:], uint32(x.Inodes))
	return s, true
}

func plainReadSuper(s api.Sector) (api.Super, bool) {
	sectors, inodes := four(s, 4), four(s, 8)
	switch {
	case string(s[:4]) != "BRKW", !zeroFrom(s, 12), sectors < 8, sectors > 4096, inodes < 1, inodes > 512, inodes+2 > sectors:
		return api.Super{}, false
	}
	return api.Super{Sectors: int(sectors), Inodes: int(inodes)}, true
}

func plainInode(x api.Inode) (api.Sector, bool) {
	var s api.Sector
	if x.Kind == 0 {
		return s, x.Links == 0 && x.Size == 0 && x.Made == 0 && x.Direct == [12]int{} && x.Single == 0 && x.Double == 0
	}
	switch {
	case x.Kind != 1 && x.Kind != 2, x.Links < 0, x.Links > 100, x.Size < 0, x.Size > 136704, x.Made < 0, x.Made > 1<<40:
		return s, false
	case x.Kind == 2 && x.Size&127 != 0:
		return s, false
	}
	s[0], s[1] = byte(x.Kind), byte(x.Links)
	binary.LittleEndian.PutUint32(s[4:], uint32(x.Size))
	binary.LittleEndian.PutUint64(s[8:], uint64(x.Made))
	for i, p := range append(x.Direct[:], x.Single, x.Double) {
		if p < 0 || p > 1<<32-1 {
			return api.Sector{}, false
		}
		binary.LittleEndian.PutUint32(s[16+4*i:], uint32(p))
	}
	return s, true
}

func plainReadInode(s api.Sector) (api.Inode, bool) {
	if zeroFrom(s, 0) {
		return api.Inode{}, true
	}
	size := four(s, 4)
	switch {
	case s[0] != 1 && s[0] != 2, s[1] > 100, s[2] != 0, s[3] != 0, size > 136704, eight(s, 8) > 1<<40, !zeroFrom(s, 72):
		return api.Inode{}, false
	case s[0] == 2 && size%128 != 0:
		return api.Inode{}, false
	}
	x := api.Inode{Kind: int(s[0]), Links: int(s[1]), Size: int(size), Made: int(eight(s, 8)), Single: int(four(s, 64)), Double: int(four(s, 68))}
	for i := range x.Direct {
		x.Direct[i] = int(four(s, 16+4*i))
	}
	return x, true
}

func plainPointers(x api.Pointers) (api.Sector, bool) {
	var s api.Sector
	for i, p := range x {
		if p < 0 || p > 1<<32-1 {
			return api.Sector{}, false
		}
		binary.LittleEndian.PutUint32(s[4*i:], uint32(p))
	}
	return s, true
}

func plainReadPointers(s api.Sector) api.Pointers {
	var x api.Pointers
	for i := range x {
		x[i] = int(four(s, 4*i))
	}
	return x
}

// plainName is what may be a name.
func plainName(name string) bool {
	for i := 0; i < len(name); i++ {
		if name[i] == 0 || name[i] == '/' {
			return false
		}
	}
	return len(name) >= 1 && len(name) <= 40 && name != "." && name != ".."
}

func plainSlot(x api.Slot) (api.Sector, bool) {
	if x == (api.Slot{}) {
		return api.Sector{}, true
	}
	if x.Ino < 1 || x.Ino > 512 || !plainName(x.Name) {
		return api.Sector{}, false
	}
	s := from(map[int]string{4: string(rune(len(x.Name))) + x.Name})
	s[0], s[1] = byte(x.Ino%256), byte(x.Ino/256)
	return s, true
}

func plainReadSlot(s api.Sector) (api.Slot, bool) {
	if zeroFrom(s, 0) {
		return api.Slot{}, true
	}
	ino, size := four(s, 0), int(s[4])
	if ino < 1 || ino > 512 || size > 40 || !zeroFrom(s, 5+size) || !plainName(string(s[5:5+size])) {
		return api.Slot{}, false
	}
	return api.Slot{Ino: int(ino), Name: string(s[5 : 5+size])}, true
}
