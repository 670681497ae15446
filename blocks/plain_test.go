package blocks_test

import (
	"slices"

	"breakwater/api"
	"breakwater/layout"
)

// teller is a reader that remembers what it was asked. It refuses some sectors; what has no table is one of zeros.
type teller struct {
	tables  map[int]api.Pointers
	refused map[int]api.Errno
	asked   []int
}

func (r *teller) Read(n int) (api.Sector, api.Errno) {
	r.asked = append(r.asked, n)
	s, _ := layout.PointersSector(r.tables[n])
	// Beside an error it tells the sector all the same: nobody may look at it.
	return s, r.refused[n]
}

// plain answers of the same tables, written of the words of the chapter alone.
type plain struct {
	*teller
	x api.Inode
}

// wayPlaces are the pointer in the inode at which a way begins, and the places in tables at which it goes on.
func (p plain) wayPlaces(index int) (int, []int) {
	if index <= 11 {
		return p.x.Direct[index], nil
	}
	if index <= 43 {
		return p.x.Single, []int{index - 12}
	}
	return p.x.Double, []int{(index - 44) / 32, (index - 44) % 32}
}

// noBlock tells whether an index has no block.
func noBlock(index int) bool { return index < 0 || index > 1067 }

// goes follows a way: the sector, the tables that are asked for, and how many tables on the way are not there.
func (p plain) goes(index int) (n int, asked []int, lacking int, e api.Errno) {
	n, places := p.wayPlaces(index)
	for i, place := range places {
		if n == 0 {
			return 0, asked, len(places) - i, api.OK
		}
		asked = append(asked, n)
		if p.refused[n] != api.OK {
			return 0, asked, 0, p.refused[n]
		}
		n = p.tables[n][place]
	}
	return n, asked, 0, api.OK
}

func (p plain) find(index int) (int, []int, api.Errno) {
	if noBlock(index) {
		return 0, nil, api.ErrBlocksIndex
	}
	n, asked, _, e := p.goes(index)
	return n, asked, e
}

func (p plain) spots() ([]api.Spot, []int, api.Errno) {
	var asked []int
	tables := []int{p.x.Single, p.x.Double}
	for i := 0; i < len(tables); i++ {
		if tables[i] == 0 {
			continue
		}
		asked = append(asked, tables[i])
		if e := p.refused[tables[i]]; e != api.OK {
			return nil, asked, e
		}
		if i == 1 {
			leads := p.tables[tables[i]]
			tables = append(tables, leads[:]...)
		}
	}
	var list []api.Spot
	for index := range 1068 {
		if n, _, _, _ := p.goes(index); n != 0 {
			list = append(list, api.Spot{Index: index, Sector: n})
		}
	}
	return list, asked, api.OK
}

func (p plain) sectorsOfTables() ([]int, []int, api.Errno) {
	list := []int{p.x.Single, p.x.Double}
	var asked []int
	if p.x.Double != 0 {
		asked = []int{p.x.Double}
		if e := p.refused[p.x.Double]; e != api.OK {
			return nil, asked, e
		}
		leads := p.tables[p.x.Double]
		list = append(list, leads[:]...)
	}
	return slices.DeleteFunc(list, func(n int) bool { return n == 0 }), asked, api.OK
}

func (p plain) need(index []int) (int, []int, api.Errno) {
	if slices.ContainsFunc(index, noBlock) {
		return 0, nil, api.ErrBlocksIndex
	}
	var asked []int
	var holes [1068]int
	single, double := 0, 0
	var inner [32]int
	for _, k := range index {
		n, some, lacking, e := p.goes(k)
		asked = append(asked, some...)
		if e != api.OK {
			return 0, asked, e
		}
		if n == 0 {
			holes[k] = 1
		}
		if lacking > 0 && k < 44 {
			single = 1
		}
		if lacking > 0 && k >= 44 {
			inner[(k-44)/32] = 1
		}
		if lacking == 2 {
			double = 1
		}
	}
	return sum(holes[:]) + single + double + sum(inner[:]), asked, api.OK
}

func sum(list []int) int {
	n := 0
	for _, v := range list {
		n += v
	}
	return n
}
