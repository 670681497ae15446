package file

import (
	"breakwater/api"
	"breakwater/layout"
)

// table is a sector of pointers, and what must land ahead of it.
type table struct {
	sector   int
	pointers api.Pointers
	after    []int
}

// table reads one.
func (f *Files) table(n int) (table, api.Errno) {
	s, e := f.cache.Read(n)
	if e != api.OK {
		return table{}, e
	}
	return table{sector: n, pointers: layout.ReadPointers(s)}, api.OK
}

// putTable puts one.
func (f *Files) putTable(t table) api.Errno {
	s, e := layout.PointersSector(t.pointers)
	if e != api.OK {
		return e
	}
	return f.cache.Put(t.sector, s, t.after...)
}
