package dump

import "breakwater/api"

// Fill makes what nodes tell; how many were made.
func Fill(a Asker, nodes ...api.Node) (int, api.Errno) {
	if a == nil {
		return 0, api.ErrArg
	}
	f := filling{asked: a, files: map[string]struct{}{}}
	for made, n := range nodes {
		if e := f.node(n); e != api.OK {
			return made, e
		}
	}
	return len(nodes), api.OK
}

// filling is a fill that is under way.
type filling struct {
	asked Asker
	files map[string]struct{} // the paths of the files' nodes so far
}

// do asks for something of which nothing but its Code is wanted.
func (f filling) do(o api.Op) api.Errno { return f.asked.Do(o).Code }

// node makes what one node tells.
func (f filling) node(n api.Node) api.Errno {
	switch {
	case !f.mayBe(n):
		return api.ErrDumpNode
	case n.Kind == api.KindDir:
		return f.do(api.Op{Kind: api.OpMkdir, Path: n.Path, Made: n.Made})
	}
	f.files[n.Path] = struct{}{}
	if n.Same != "" {
		return f.do(api.Op{Kind: api.OpLink, Path: n.Same, To: n.Path})
	}
	return f.file(n)
}

// mayBe tells whether a node may be, behind those so far; its path may be wrong yet.
func (f filling) mayBe(n api.Node) bool {
	if !inBounds(n) {
		return false
	}
	if n.Kind == api.KindDir {
		return n.Same == "" && len(n.Data) == 0
	}
	if n.Same == "" {
		return true
	}
	_, ahead := f.files[n.Same]
	return ahead && len(n.Data) == 0
}

// inBounds tells whether a node's numbers, and how many bytes it has, are such as a file or a directory may have.
func inBounds(n api.Node) bool {
	return (n.Kind == api.KindFile || n.Kind == api.KindDir) &&
		n.Made >= 0 && n.Made <= api.MaxMade &&
		len(n.Data) <= api.MaxFile
}

// file makes a file that none of the nodes so far has.
func (f filling) file(n api.Node) api.Errno {
	if e := f.do(api.Op{Kind: api.OpCreate, Path: n.Path, Made: n.Made}); e != api.OK {
		return e
	}
	if e := f.lay(n.Path, n.Data); e != api.OK {
		return e
	}
	// Zeros at the end were not written: it may be shorter yet.
	return f.do(api.Op{Kind: api.OpTruncate, Path: n.Path, Off: len(n.Data)})
}

// lay writes a file's bytes, but for pieces of zeros: without a sector these read the same.
func (f filling) lay(path string, data []byte) api.Errno {
	for off := 0; off < len(data); {
		n := run(data[off:])
		if n == 0 {
			off += api.SectorSize
			continue
		}
		if e := f.do(api.Op{Kind: api.OpWrite, Path: path, Off: off, Data: data[off : off+n]}); e != api.OK {
			return e
		}
		off += n
	}
	return api.OK
}

// run is how many bytes at the front one write takes: up to a piece of zeros, and to what a write may have.
func run(data []byte) int {
	n := 0
	for n < len(data) && n < api.MaxData {
		end := min(n+api.SectorSize, len(data))
		if isZeros(data[n:end]) {
			break
		}
		n = end
	}
	return n
}

// isZeros tells whether a piece of at most a sector's bytes has zeros alone.
func isZeros(piece []byte) bool {
	var s api.Sector
	copy(s[:], piece)
	return s == api.Sector{}
}
