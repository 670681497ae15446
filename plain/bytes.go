package plain

import (
	"maps"

	"breakwater/api"
)

// read is up to so many bytes of a file, from off on.
func (n *node) read(off, count int) ([]byte, api.Errno) {
	if off < 0 || count < 0 || count > api.MaxData {
		return nil, api.ErrFileRange
	}
	if off >= n.size {
		return nil, api.OK
	}
	data := make([]byte, min(count, n.size-off))
	for done := 0; done < len(data); {
		s := n.blocks[(off+done)/api.SectorSize] // a hole is zeros
		done += copy(data[done:], s[(off+done)%api.SectorSize:])
	}
	return data, api.OK
}

// write lays bytes into a file, all of them or none.
func (p *Plain) write(n *node, off int, data []byte) api.Errno {
	// The sum might wrap round.
	if off < 0 || len(data) > api.MaxData || off > api.MaxFile-len(data) {
		return api.ErrFileRange
	}
	if len(data) == 0 {
		return api.OK
	}
	end := off + len(data)
	if !p.hasRoom(n, off/api.SectorSize, (end-1)/api.SectorSize) {
		return api.ErrSpaceBlocks
	}
	for done := 0; done < len(data); {
		k := (off + done) / api.SectorSize
		s := n.blocks[k]
		done += copy(s[(off+done)%api.SectorSize:], data[done:])
		n.blocks[k] = s
	}
	n.size = max(n.size, end)
	return api.OK
}

// truncate gives a file another size. Where that is above its own, nothing is there to be cut off.
func (n *node) truncate(size int) api.Errno {
	if size < 0 || size > api.MaxFile {
		return api.ErrFileRange
	}
	maps.DeleteFunc(n.blocks, func(k int, _ api.Sector) bool { return k*api.SectorSize >= size })
	last := size / api.SectorSize
	if s, there := n.blocks[last]; there {
		clear(s[size%api.SectorSize:])
		n.blocks[last] = s
	}
	n.size = size
	return api.OK
}
