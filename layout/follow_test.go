package layout_test

import (
	"testing"

	"breakwater/api"
	"breakwater/layout"
)

// steps answers numbers below a limit, the same ones in every run.
func steps(seed uint32) func(limit int) int {
	return func(limit int) int {
		seed = seed*1664525 + 1013904223
		return int(seed>>8) % limit
	}
}

// somePointer is one that may be, often at an end.
func somePointer(next func(int) int) int {
	switch next(4) {
	case 0:
		return 0
	case 1:
		return far - next(3)
	}
	return next(1<<16)<<16 | next(1<<16)
}

func someInode(next func(int) int) api.Inode {
	x := api.Inode{Kind: 1 + next(2), Links: next(101), Size: 128 * next(1069), Made: next(1<<20) << next(20), Single: somePointer(next), Double: somePointer(next)}
	if x.Kind == api.KindFile {
		x.Size = next(136705)
	}
	for i := range x.Direct {
		x.Direct[i] = somePointer(next)
	}
	return x
}

func someSlot(next func(int) int) api.Slot {
	name := make([]byte, 1+next(40))
	for i := range name {
		name[i] = byte(1 + next(255))
		if name[i] == '/' || name[i] == '.' {
			name[i] = '_'
		}
	}
	return api.Slot{Ino: 1 + next(512), Name: string(name)}
}

func TestSomeThingsAndTheirSectors(t *testing.T) { // P6.1 to P6.4, P6.6, P6.7
	next := steps(6)
	inodes, slots, tables := map[api.Sector]api.Inode{}, map[api.Sector]api.Slot{}, map[api.Sector]api.Pointers{}
	for range 4000 {
		x, z := someInode(next), someSlot(next)
		var p api.Pointers
		for i := range p {
			p[i] = somePointer(next)
		}
		holdInode(t, x)
		holdSlot(t, z)
		holdPointers(t, p)
		s, _ := layout.InodeSector(x)
		if y, there := inodes[s]; there && y != x {
			t.Errorf("%v and %v have one sector", x, y)
		}
		u, _ := layout.SlotSector(z)
		if y, there := slots[u]; there && y != z {
			t.Errorf("%v and %v have one sector", z, y)
		}
		v, _ := layout.PointersSector(p)
		if y, there := tables[v]; there && y != p {
			t.Errorf("%v and %v have one sector", p, y)
		}
		inodes[s], slots[u], tables[v] = x, z, p
	}
}

func TestUnlikeSupersHaveUnlikeSectors(t *testing.T) { // P6.6, P6.7
	laid := map[api.Sector]api.Super{}
	for sectors := 8; sectors <= 4096; sectors += 1 + sectors/9 {
		for inodes := 1; inodes <= min(512, sectors-2); inodes++ {
			x := api.Super{Sectors: sectors, Inodes: inodes}
			holdSuper(t, x)
			s, _ := layout.SuperSector(x)
			if y, there := laid[s]; there {
				t.Errorf("%v and %v have one sector", x, y)
			}
			laid[s] = x
		}
	}
}

func TestInodesThatDifferInOneNumber(t *testing.T) { // P6.7
	next := steps(66)
	for range 200 {
		x := someInode(next)
		x.Kind, x.Size = api.KindDir, 256
		s, e := layout.InodeSector(x)
		if e != api.OK {
			t.Fatalf("%v: %d", x, e)
		}
		for at, y := range inodesBy(x, 1) {
			u, e := layout.InodeSector(y)
			if (u == s) != (y == x) {
				t.Errorf("number %d another: %v, %v, %d", at, x, y, e)
			}
		}
	}
}

func TestAnySectorsAreRead(t *testing.T) { // P6.1 to P6.4, P6.7, R1
	next := steps(606)
	for range 6000 {
		s := api.Sector{}
		if next(2) == 0 {
			s, _ = layout.InodeSector(someInode(next))
		} else if next(2) == 0 {
			s, _ = layout.SlotSector(someSlot(next))
		}
		for range next(6) {
			s[next(len(s))] = byte(next(256))
			s[next(16)] = byte(next(4))
		}
		holdReaders(t, s)
	}
	for range 2000 {
		var s api.Sector
		for i := range s {
			s[i] = byte(next(256))
		}
		holdReaders(t, s)
	}
}
