package layout

import "breakwater/api"

// field says where one of an inode's stands, how great its numbers may be, and how they are had from an inode and given to one.
type field struct {
	at, width int
	count     int // how many numbers it has, one behind the other
	most      int
	get       func(x api.Inode, i int) int
	put       func(x api.Inode, i, v int) api.Inode
}

// place is where its number i stands.
func (f field) place(i int) int { return f.at + i*f.width }

// inodeFields are all of an inode's.
func inodeFields() []field {
	return []field{
		{
			at: 0, width: 1, count: 1, most: api.KindDir,
			get: func(x api.Inode, _ int) int { return x.Kind },
			put: func(x api.Inode, _, v int) api.Inode { x.Kind = v; return x },
		},
		{
			at: 1, width: 1, count: 1, most: api.MaxLinks,
			get: func(x api.Inode, _ int) int { return x.Links },
			put: func(x api.Inode, _, v int) api.Inode { x.Links = v; return x },
		},
		{
			at: 4, width: 4, count: 1, most: api.MaxFile,
			get: func(x api.Inode, _ int) int { return x.Size },
			put: func(x api.Inode, _, v int) api.Inode { x.Size = v; return x },
		},
		{
			at: 8, width: 8, count: 1, most: api.MaxMade,
			get: func(x api.Inode, _ int) int { return x.Made },
			put: func(x api.Inode, _, v int) api.Inode { x.Made = v; return x },
		},
		{
			at: 16, width: pointerSize, count: api.Direct, most: maxPointer,
			get: func(x api.Inode, i int) int { return x.Direct[i] },
			put: func(x api.Inode, i, v int) api.Inode { x.Direct[i] = v; return x },
		},
		{
			at: 64, width: pointerSize, count: 1, most: maxPointer,
			get: func(x api.Inode, _ int) int { return x.Single },
			put: func(x api.Inode, _, v int) api.Inode { x.Single = v; return x },
		},
		{
			at: 68, width: pointerSize, count: 1, most: maxPointer,
			get: func(x api.Inode, _ int) int { return x.Double },
			put: func(x api.Inode, _, v int) api.Inode { x.Double = v; return x },
		},
	}
}
