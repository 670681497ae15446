package file

import (
	"breakwater/api"
	"breakwater/blocks"
	"breakwater/sector"
)

// Read reads bytes.
func (f *Files) Read(i, off, n int) ([]byte, api.Errno) {
	x, e := f.plain(i)
	if e != api.OK {
		return nil, e
	}
	if off < 0 || n < 0 || n > api.MaxData {
		return nil, api.ErrFileRange
	}
	// Held to the size ahead of being added: off may be at int's end.
	if off >= x.Size || n == 0 {
		return nil, api.OK
	}
	n = min(n, x.Size-off)
	sectors, e := f.touched(x, off, n)
	if e != api.OK {
		return nil, e
	}
	skip := off % api.SectorSize
	return sector.Join(skip+n, sectors...)[skip:], api.OK
}

// touched are the sectors of the blocks in which bytes stand, one at least; zeros of a hole.
func (f *Files) touched(x api.Inode, off, n int) ([]api.Sector, api.Errno) {
	var list []api.Sector
	for index := off / api.SectorSize; index <= (off+n-1)/api.SectorSize; index++ {
		at, e := blocks.Find(f.cache, x, index)
		if e != api.OK {
			return nil, e
		}
		var s api.Sector
		if at != 0 {
			if s, e = f.cache.Read(at); e != api.OK {
				return nil, e
			}
		}
		list = append(list, s)
	}
	return list, api.OK
}

// Write writes bytes.
func (f *Files) Write(i, off int, data []byte) api.Errno {
	x, e := f.plain(i)
	if e != api.OK {
		return e
	}
	// The data are taken from the limit: added to an offset near int's end they would wrap round.
	if off < 0 || len(data) > api.MaxData || off > api.MaxFile-len(data) {
		return api.ErrFileRange
	}
	if len(data) == 0 {
		return api.OK
	}
	sectors, e := f.touched(x, off, len(data))
	if e != api.OK {
		return e
	}
	bytes := sector.Join(len(sectors)*api.SectorSize, sectors...)
	copy(bytes[off%api.SectorSize:], data)
	var list []api.Block
	for k, s := range sector.Cut(bytes) {
		list = append(list, api.Block{Index: off/api.SectorSize + k, Data: s})
	}
	return f.Lay(i, off+len(data), list...)
}
