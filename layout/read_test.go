package layout_test

import (
	"strings"
	"testing"

	"breakwater/api"
	"breakwater/layout"
)

// holdReaders holds all that is read of one sector against the plain form, and writes it again: P6.7.
func holdReaders(t *testing.T, s api.Sector) {
	t.Helper()
	super, may := plainReadSuper(s)
	x, e := layout.ReadSuper(s)
	if x != super || e != code(may, api.ErrLayoutSuper) {
		t.Errorf("ReadSuper of %v: %v, %d; want %v, may be: %v", s, x, e, super, may)
	}
	if again, f := layout.SuperSector(x); e == api.OK && (again != s || f != api.OK) {
		t.Errorf("%v is read as %v, whose sector is %v, %d", s, x, again, f)
	}
	inode, may := plainReadInode(s)
	y, e := layout.ReadInode(s)
	if y != inode || e != code(may, api.ErrLayoutInode) {
		t.Errorf("ReadInode of %v: %v, %d; want %v, may be: %v", s, y, e, inode, may)
	}
	if again, f := layout.InodeSector(y); e == api.OK && (again != s || f != api.OK) {
		t.Errorf("%v is read as %v, whose sector is %v, %d", s, y, again, f)
	}
	slot, may := plainReadSlot(s)
	z, e := layout.ReadSlot(s)
	if z != slot || e != code(may, api.ErrLayoutSlot) {
		t.Errorf("ReadSlot of %v: %v, %d; want %v, may be: %v", s, z, e, slot, may)
	}
	if again, f := layout.SlotSector(z); e == api.OK && (again != s || f != api.OK) {
		t.Errorf("%v is read as %v, whose sector is %v, %d", s, z, again, f)
	}
	p := layout.ReadPointers(s)
	if again, f := layout.PointersSector(p); p != plainReadPointers(s) || again != s || f != api.OK {
		t.Errorf("%v is read as %v, whose sector is %v, %d", s, p, again, f)
	}
}

// written are sectors of things that may be, at their ends and between.
func written(t *testing.T) []api.Sector {
	t.Helper()
	list := []api.Sector{{}}
	for _, x := range []api.Super{{Sectors: 8, Inodes: 1}, {Sectors: 8, Inodes: 6}, {Sectors: 514, Inodes: 512}, {Sectors: 4096, Inodes: 512}, {Sectors: 64, Inodes: 16}} {
		s, _ := layout.SuperSector(x)
		list = append(list, s)
	}
	full := api.Inode{Kind: 1, Links: 100, Size: 136704, Made: 1 << 40, Single: far, Double: far}
	for i := range full.Direct {
		full.Direct[i] = far - i
	}
	for _, x := range []api.Inode{full, {Kind: 1}, {Kind: 2}, {Kind: 2, Links: 3, Size: 384, Made: 258, Direct: [12]int{9, 10, 11}}, {Kind: 1, Size: 300, Single: 70}} {
		s, _ := layout.InodeSector(x)
		list = append(list, s)
	}
	for _, x := range []api.Slot{{Ino: 7, Name: "ab"}, {Ino: 1, Name: "..."}, {Ino: 512, Name: strings.Repeat("x", 40)}, {Ino: 258, Name: ".-"}, {Ino: 1, Name: "\xff"}} {
		s, e := layout.SlotSector(x)
		if e != api.OK {
			t.Fatalf("%v: %d", x, e)
		}
		list = append(list, s)
	}
	return list
}

func TestAnyOneByteTurned(t *testing.T) { // P6.1 to P6.4, P6.7
	for _, s := range written(t) {
		holdReaders(t, s)
		for at := range s {
			// Places behind what any of them says are turned to few others: each of these is refused alike.
			step := 1
			if at > 76 {
				step = 51
			}
			for b := 0; b < 256; b += step {
				turned := s
				turned[at] ^= byte(b)
				holdReaders(t, turned)
			}
		}
	}
}

func TestNumbersThatNoneMayHave(t *testing.T) { // P6.1, P6.2, P6.4
	file := from(map[int]string{0: "\x01\x01"})
	for _, made := range []string{"\x00\x00\x00\x00\x00\x01\x00\x00", "\x01\x00\x00\x00\x00\x01\x00\x00", "\x00\x00\x00\x00\x00\x00\x00\x40", "\x01\x00\x00\x00\x00\x00\x00\x40", "\x00\x00\x00\x00\x00\x00\x00\x80", "\xff\xff\xff\xff\xff\xff\xff\xff"} {
		s := file
		copy(s[8:], made)
		holdReaders(t, s)
	}
	for _, four := range []string{"\x00\x16\x02\x00", "\x01\x16\x02\x00", "\x80\x16\x02\x00", "\xff\xff\xff\x7f", "\x00\x00\x00\x80", "\xff\xff\xff\xff"} {
		for _, at := range []int{0, 4, 8} {
			for _, base := range written(t) {
				copy(base[at:], four)
				holdReaders(t, base)
			}
		}
	}
	var full api.Sector
	for i := range full {
		full[i] = 255
	}
	holdReaders(t, full)
}

func TestANameAsLongAsItsByteSays(t *testing.T) { // P6.4, P6.7
	for has := range 124 {
		for says := range 256 {
			s := from(map[int]string{0: "\x02", 5: strings.Repeat("n", has)})
			s[4] = byte(says)
			holdReaders(t, s)
		}
	}
}

func TestNoFirstSectorIsAnother(t *testing.T) { // P6.8
	for sectors := 8; sectors <= 4096; sectors++ {
		for _, inodes := range []int{1, 2, 6, 16, 255, 256, 257, 511, 512} {
			s, e := layout.SuperSector(api.Super{Sectors: sectors, Inodes: inodes})
			if e != api.OK {
				continue
			}
			if x, e := layout.ReadInode(s); e != api.ErrLayoutInode || x != (api.Inode{}) {
				t.Errorf("{%d, %d} is read as inode %v, %d", sectors, inodes, x, e)
			}
			if x, e := layout.ReadSlot(s); e != api.ErrLayoutSlot || x != (api.Slot{}) {
				t.Errorf("{%d, %d} is read as slot %v, %d", sectors, inodes, x, e)
			}
		}
	}
}

func TestASectorMayBeAnInodeAndASlot(t *testing.T) { // P6.8
	s := from(map[int]string{0: "\x01\x01\x00\x00\x02\x01\x01"})
	slot, e := layout.ReadSlot(s)
	if slot != (api.Slot{Ino: 257, Name: "\x01\x01"}) || e != api.OK {
		t.Errorf("as a slot: %v, %d", slot, e)
	}
	inode, e := layout.ReadInode(s)
	if inode != (api.Inode{Kind: 1, Links: 1, Size: 2 + 256 + 65536}) || e != api.OK {
		t.Errorf("as an inode: %v, %d", inode, e)
	}
}
