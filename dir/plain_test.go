package dir_test

import (
	"encoding/binary"
	"slices"
	"strings"
	"testing"

	"breakwater/api"
)

// plain does what the words of the chapter say, on files of its own. It reads bytes, and asks no other layer what they mean.
type plain struct{ *rig } // its directories are not asked

func plainOf(t *testing.T, sectors, inodes int) *plain {
	t.Helper()
	return &plain{rigOf(t, sectors, inodes)}
}

// look tells sectors: as they are read, or as they stand.
type look func(n int) api.Sector

func (p *plain) read(n int) api.Sector {
	s, e := p.c.Read(n)
	p.is("cache.Read", e, api.OK)
	return s
}

func number(s api.Sector, at int) int { return int(binary.LittleEndian.Uint32(s[at:])) }

// way are the sectors that lead to a block, the inode's first, the block's last; it ends with a 0 where one is missing.
func way(see look, d, k int) []int {
	list := []int{d}
	var at []int
	switch {
	case k < 12:
		at = []int{16 + 4*k}
	case k < 44:
		at = []int{64, 4 * (k - 12)}
	default:
		at = []int{68, (k - 44) / 32 * 4, (k - 44) % 32 * 4}
	}
	for _, place := range at {
		n := number(see(list[len(list)-1]), place)
		list = append(list, n)
		if n == 0 {
			break
		}
	}
	return list
}

// sectorOf is a block's; 0: a hole.
func sectorOf(see look, d, k int) int {
	list := way(see, d, k)
	return list[len(list)-1]
}

// slotOf is what a sector says; not: it is no slot.
func slotOf(s api.Sector) (slot api.Slot, not bool) {
	if s == (api.Sector{}) {
		return none, false
	}
	i, size := number(s, 0), int(s[4])
	if i < 1 || i > 512 || size < 1 || size > 40 || strings.Trim(string(s[5+size:]), "\x00") != "" {
		return none, true
	}
	name := string(s[5 : 5+size])
	if strings.ContainsAny(name, "\x00/") || name == "." || name == ".." {
		return none, true
	}
	return of(i, name), false
}

// slotsOf are all slots of a directory; a hole is an empty one.
func slotsOf(see look, d int) []api.Slot {
	list := []api.Slot{}
	for k := range number(see(d), 4) / 128 {
		s := none
		if n := sectorOf(see, d, k); n != 0 {
			s, _ = slotOf(see(n))
		}
		list = append(list, s)
	}
	return list
}

func (p *plain) visible(d, k int) []int {
	var list []int
	dirty := p.c.Dirty()
	for _, n := range way(p.read, d, k) {
		if n != 0 && slices.Contains(dirty, n) {
			list = append(list, n)
		}
	}
	slices.Reverse(list)
	return list
}

// findIn looks for a name among slots.
func findIn(list []api.Slot, name string) (int, int, api.Errno) {
	for k, s := range list {
		if s.Ino != 0 && s.Name == name {
			return k, s.Ino, api.OK
		}
	}
	return 0, 0, api.ErrDirNone
}

func (p *plain) place(d int, list []api.Slot) (int, int, api.Errno) {
	k := 0
	for k < len(list) && list[k].Ino != 0 {
		k++
	}
	if k == 1068 {
		return 0, 0, api.ErrDirFull
	}
	seen := way(p.read, d, k)
	if seen[len(seen)-1] != 0 {
		return k, 0, api.OK
	}
	depth := 1
	if k >= 12 {
		depth = 2
	}
	if k >= 44 {
		depth = 3
	}
	return k, depth - (len(seen) - 2), api.OK
}

func (p *plain) set(d, k int, s api.Slot, after []int) api.Errno {
	var data api.Sector
	binary.LittleEndian.PutUint32(data[:], uint32(s.Ino))
	data[4] = byte(len(s.Name))
	copy(data[5:], s.Name)
	var held []int
	stands := p.d.Image()
	for i := range slotsOf(p.read, d) {
		n := sectorOf(p.read, d, i)
		if i == k || n == 0 || s.Ino == 0 || !slices.Contains(p.c.Dirty(), n) {
			continue
		}
		if old, not := slotOf(stands[n]); !not && old.Ino != 0 && old.Name == s.Name {
			held = append(held, n)
		}
	}
	slices.Sort(held)
	return p.f.Lay(d, (k+1)*128, api.Block{Index: k, Data: data, After: append(slices.Clone(after), held...)})
}
