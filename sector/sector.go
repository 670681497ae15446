// Package sector is layer 1: numbers and bytes in a sector, which is a value: see shared/doc/01-sector.md.
package sector

import "breakwater/api"

const (
	maxWidth  = 8       // bytes of the widest number
	maxNumber = 1 << 62 // the greatest one that may be, whatever room there is
)

// Get is the number that stands at a place, in width bytes.
func Get(s api.Sector, at, width int) (int, api.Errno) {
	if !within(at, width) {
		return 0, api.ErrSectorPlace
	}
	var v uint64
	for i := range width {
		v |= uint64(s[at+i]) << (8 * i)
	}
	if v > maxNumber {
		return 0, api.ErrSectorValue
	}
	return int(v), api.OK
}

// Set puts a number there.
func Set(s api.Sector, at, width, v int) (api.Sector, api.Errno) {
	if !within(at, width) {
		return api.Sector{}, api.ErrSectorPlace
	}
	if !fits(v, width) {
		return api.Sector{}, api.ErrSectorValue
	}
	for i := range width {
		s[at+i] = byte(v >> (8 * i))
	}
	return s, api.OK
}

// within tells whether a number of so many bytes lies within a sector at a place.
func within(at, width int) bool {
	if width < 1 || width > maxWidth {
		return false
	}
	// The width is taken from the size: added to a place near int's end it would wrap round.
	return at >= 0 && at <= api.SectorSize-width
}

// fits tells whether a number may be, and has room in so many bytes.
func fits(v, width int) bool {
	if v < 0 || v > maxNumber {
		return false
	}
	// In all eight bytes whatever may be has room, and 256 to the eighth is no int.
	return width == maxWidth || v < 1<<(8*width)
}

// Zero tells whether all bytes are 0.
func Zero(s api.Sector) bool { return s == api.Sector{} }

// Splice puts bytes in the place of others.
func Splice(s api.Sector, at int, data []byte) (api.Sector, api.Errno) {
	if at < 0 || at > api.SectorSize || len(data) > api.SectorSize-at {
		return api.Sector{}, api.ErrSectorPlace
	}
	copy(s[at:], data)
	return s, api.OK
}

// Wipe makes all bytes from a place on 0.
func Wipe(s api.Sector, from int) api.Sector {
	for i := range api.SectorSize {
		if i >= from {
			s[i] = 0
		}
	}
	return s
}

// Cut is bytes as sectors.
func Cut(data []byte) []api.Sector {
	sectors := make([]api.Sector, (len(data)+api.SectorSize-1)/api.SectorSize)
	for i := range len(sectors) {
		copy(sectors[i][:], data[i*api.SectorSize:])
	}
	return sectors
}

// Join is the first n bytes of sectors.
func Join(n int, sectors ...api.Sector) []byte {
	// Held to what there is ahead of making room: n may be anything.
	n = min(max(n, 0), len(sectors)*api.SectorSize)
	data := make([]byte, n)
	for i := range n {
		data[i] = sectors[i/api.SectorSize][i%api.SectorSize]
	}
	return data
}
