package plain

import (
	"breakwater/api"
	"breakwater/path"
)

// fields are some of an operation's.
type fields int

const (
	usesPath fields = 1 << iota
	usesTo
	usesOff
	usesLen
	usesData
	usesMade
	usesPick
)

// usedBy are the fields that each kind uses.
var usedBy = [...]fields{
	api.OpCreate:   usesPath | usesMade,
	api.OpMkdir:    usesPath | usesMade,
	api.OpLink:     usesPath | usesTo,
	api.OpUnlink:   usesPath,
	api.OpRmdir:    usesPath,
	api.OpRename:   usesPath | usesTo,
	api.OpWrite:    usesPath | usesOff | usesData,
	api.OpTruncate: usesPath | usesOff,
	api.OpRead:     usesPath | usesOff | usesLen,
	api.OpStat:     usesPath,
	api.OpList:     usesPath,
	api.OpSync:     0,
	api.OpFsync:    usesPath,
	api.OpFlush:    usesPick,
}

// given are the fields of an operation that are not zero.
func given(o api.Op) fields {
	var f fields
	mark := func(one fields, yes bool) {
		if yes {
			f |= one
		}
	}
	mark(usesPath, o.Path != "")
	mark(usesTo, o.To != "")
	mark(usesOff, o.Off != 0)
	mark(usesLen, o.Len != 0)
	mark(usesData, len(o.Data) > 0)
	mark(usesMade, o.Made != 0)
	mark(usesPick, o.Pick != 0)
	return f
}

// mayBe tells whether an operation is one, whatever its paths are.
func mayBe(o api.Op) bool {
	if o.Kind < api.OpCreate || o.Kind > api.OpFlush {
		return false
	}
	return given(o)&^usedBy[o.Kind] == 0 && o.Made >= 0 && o.Made <= api.MaxMade
}

// split is both paths' names, as far as its kind uses them.
func split(o api.Op) (names, to []string, e api.Errno) {
	if usedBy[o.Kind]&usesPath != 0 {
		if names, e = path.Split(o.Path); e != api.OK {
			return nil, nil, e
		}
	}
	if usedBy[o.Kind]&usesTo != 0 {
		if to, e = path.Split(o.To); e != api.OK {
			return nil, nil, e
		}
	}
	return names, to, api.OK
}

// Do does an operation.
func (p *Plain) Do(o api.Op) api.Answer {
	if !mayBe(o) {
		return api.Answer{Code: api.ErrFSOp}
	}
	names, to, e := split(o)
	if e != api.OK {
		return api.Answer{Code: e}
	}
	switch o.Kind {
	case api.OpCreate:
		return p.makeOne(names, api.KindFile, o.Made)
	case api.OpMkdir:
		return p.makeOne(names, api.KindDir, o.Made)
	case api.OpLink:
		return api.Answer{Code: p.link(names, to)}
	case api.OpUnlink:
		return api.Answer{Code: p.unlink(names)}
	case api.OpRmdir:
		return api.Answer{Code: p.rmdir(names)}
	case api.OpRename:
		return api.Answer{Code: p.rename(names, to)}
	case api.OpSync, api.OpFlush:
		return api.Answer{} // there is no disk on which something could land
	}
	i, e := p.walk(names)
	if e != api.OK {
		return api.Answer{Code: e}
	}
	return p.doAt(i, o)
}

// doAt does what is done to what a path leads to.
func (p *Plain) doAt(i int, o api.Op) api.Answer {
	n := p.nodes[i]
	switch {
	case o.Kind == api.OpStat:
		return api.Answer{Stat: p.stat(i)}
	case o.Kind == api.OpList && !n.isDirectory():
		return api.Answer{Code: api.ErrDirKind}
	case o.Kind == api.OpList:
		return api.Answer{Entries: p.list(n)}
	case n.isDirectory():
		return api.Answer{Code: api.ErrFileKind}
	case o.Kind == api.OpWrite:
		return api.Answer{Code: p.write(n, o.Off, o.Data)}
	case o.Kind == api.OpTruncate:
		return api.Answer{Code: n.truncate(o.Off)}
	case o.Kind == api.OpRead:
		data, e := n.read(o.Off, o.Len)
		return api.Answer{Code: e, Data: data}
	}
	return api.Answer{} // OpFsync
}
