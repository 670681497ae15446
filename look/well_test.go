package look_test

import (
	"fmt"
	"slices"

	"breakwater/api"
)

// pointer is one that is not 0: where it stands, where it leads, and the first block to which it does.
type pointer struct {
	n, at, to, first int
	table            bool
}

// pointersIn are those of a sector, from a place on, each of which leads to so many blocks.
func pointersIn(image []api.Sector, n, at, count, first, each int, table bool) []pointer {
	var list []pointer
	for k := range count {
		if to := number(image[n], at+4*k); to != 0 {
			list = append(list, pointer{n, at + 4*k, to, first + each*k, table})
		}
	}
	return list
}

// pointersOf are all of an inode and of its tables, as far as these lie within the image.
func pointersOf(image []api.Sector, i int) []pointer {
	list := pointersIn(image, i, 16, 12, 0, 1, false)
	single := pointersIn(image, i, 64, 1, 12, 0, true)
	double := pointersIn(image, i, 68, 1, 44, 0, true)
	var tables []pointer
	for _, p := range double {
		if p.to < len(image) {
			tables = append(tables, pointersIn(image, p.to, 0, 32, 44, 32, true)...)
		}
	}
	list = append(append(append(list, single...), double...), tables...)
	for _, p := range append(single, tables...) {
		if p.to < len(image) {
			list = append(list, pointersIn(image, p.to, 0, 32, p.first, 1, false)...)
		}
	}
	return list
}

// spotsOf are the blocks that are there, by rising index.
func spotsOf(image []api.Sector, i int) []api.Spot {
	var list []api.Spot
	for _, p := range pointersOf(image, i) {
		if !p.table {
			list = append(list, api.Spot{Index: p.first, Sector: p.to})
		}
	}
	slices.SortFunc(list, func(a, b api.Spot) int { return a.Index - b.Index })
	return list
}

// inUse are the inodes whose kind is not that of a free one.
func inUse(image []api.Sector) []int {
	var list []int
	for i := 1; i <= number(image[0], 8); i++ {
		if image[i][0] != 0 {
			list = append(list, i)
		}
	}
	return list
}

// ill tells why an image is not well-formed; nothing, if it is.
func ill(image []api.Sector) string {
	if len(image) < 8 || len(image) > 4096 {
		return fmt.Sprintf("%d sectors", len(image))
	}
	if super, not := superIs(image[0]); not || super.Sectors != len(image) {
		return "the first sector is none"
	}
	for i := 1; i <= number(image[0], 8); i++ {
		if !readable(image[i]) {
			return fmt.Sprintf("inode %d can not be read", i)
		}
	}
	if image[1][0] != 2 {
		return "the root is no directory"
	}
	for _, part := range []func([]api.Sector) string{illPointers, illSlots, illEntries, illTails} {
		if why := part(image); why != "" {
			return why
		}
	}
	return ""
}

func illPointers(image []api.Sector) string {
	seen := map[int]bool{}
	for _, i := range inUse(image) {
		for _, p := range pointersOf(image, i) {
			switch {
			case p.first >= blocksOf(image[i]):
				return fmt.Sprintf("inode %d: %+v leads behind the end", i, p)
			case p.to <= number(image[0], 8) || p.to >= len(image):
				return fmt.Sprintf("inode %d: %+v leads to no data sector", i, p)
			case seen[p.to]:
				return fmt.Sprintf("inode %d: %+v leads to what is pointed to already", i, p)
			case p.table && zeros(image[p.to][:]):
				return fmt.Sprintf("inode %d: %+v leads to a table without a pointer", i, p)
			}
			seen[p.to] = true
		}
	}
	return ""
}

func illSlots(image []api.Sector) string {
	for _, i := range inUse(image) {
		names := map[string]bool{}
		for _, spot := range spotsOf(image, i) {
			s, not := slotIs(image[spot.Sector])
			switch {
			case image[i][0] != 2:
			case not:
				return fmt.Sprintf("directory %d: %v is no slot", i, spot)
			case s.Ino == 0:
			case s.Ino == 1 || !slices.Contains(inUse(image), s.Ino):
				return fmt.Sprintf("directory %d: %v names %d", i, spot, s.Ino)
			case names[s.Name]:
				return fmt.Sprintf("directory %d has the name %q twice", i, s.Name)
			}
			names[s.Name] = true
		}
	}
	return ""
}

func illEntries(image []api.Sector) string {
	reached, entries := []int{1}, map[int]int{1: 1}
	for at := 0; at < len(reached); at++ {
		d := reached[at]
		if image[d][0] != 2 {
			continue
		}
		for _, spot := range spotsOf(image, d) {
			if s, _ := slotIs(image[spot.Sector]); s.Ino != 0 {
				entries[s.Ino]++
				if entries[s.Ino] == 1 {
					reached = append(reached, s.Ino)
				}
			}
		}
	}
	for _, i := range inUse(image) {
		n := entries[i]
		if n < 1 || n > 100 || n > 1 && image[i][0] == 2 || n != int(image[i][1]) {
			return fmt.Sprintf("inode %d has %d entries, and tells %d", i, n, image[i][1])
		}
	}
	return ""
}

func illTails(image []api.Sector) string {
	for _, i := range inUse(image) {
		size := number(image[i], 4)
		for _, spot := range spotsOf(image, i) {
			if image[i][0] == 1 && 128*spot.Index+128 > size && !zeros(image[spot.Sector][size%128:]) {
				return fmt.Sprintf("file %d has bytes behind its end", i)
			}
		}
	}
	return ""
}

// nowhere tells what in a Want comes from nowhere in its image; nothing, if all stands there (P12.6).
func nowhere(image, want []api.Sector) string {
	for _, i := range inUse(want) {
		a, b := want[i], image[i]
		if a[0] != b[0] || string(a[4:16]) != string(b[4:16]) {
			return fmt.Sprintf("inode %d is another", i)
		}
		for _, p := range pointersOf(want, i) {
			if number(image[p.n], p.at) != p.to {
				return fmt.Sprintf("inode %d: %+v", i, p)
			}
		}
		for _, spot := range spotsOf(want, i) {
			upTo := min(128, number(a, 4)-128*spot.Index)
			if a[0] == 2 && zeros(want[spot.Sector][:]) {
				continue
			}
			if string(want[spot.Sector][:upTo]) != string(image[spot.Sector][:upTo]) {
				return fmt.Sprintf("inode %d: %v has other bytes", i, spot)
			}
		}
	}
	return ""
}
