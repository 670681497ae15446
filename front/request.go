package front

import (
	"bytes"

	"breakwater/api"
)

// Bytes is an operation's bytes.
func Bytes(o api.Op) ([]byte, api.Errno) {
	b, err := requestBytes(o)
	return b, errnoOf(err)
}

// Read is the operation whose bytes these are.
func Read(b []byte) (api.Op, api.Errno) {
	o, err := readRequest(b)
	return o, errnoOf(err)
}

// requestBytes lays an operation, and reads it again: it has bytes just if these are read as it. So what has bytes is said by the reading alone.
func requestBytes(o api.Op) ([]byte, error) {
	k, err := kindOf(o.Kind)
	if err != nil {
		return nil, err
	}
	b := lay(lay(nil, octet{&o.Kind}), k.parts(&o)...)
	again, err := readRequest(b)
	if err != nil {
		return nil, err
	}
	if !isSame(again, o) {
		return nil, fault{"a field has no place in the bytes, or no room"}
	}
	return b, nil
}

// readRequest is the operation that all of b says.
func readRequest(b []byte) (api.Op, error) {
	var o api.Op
	r := reader{rest: b}
	if err := r.read(octet{&o.Kind}); err != nil {
		return api.Op{}, err
	}
	k, err := kindOf(o.Kind)
	if err != nil {
		return api.Op{}, err
	}
	if err := r.readLast(k.parts(&o)...); err != nil {
		return api.Op{}, err
	}
	return o, nil
}

// isSame tells whether two operations say the same.
func isSame(o, p api.Op) bool {
	return o.Kind == p.Kind && o.Path == p.Path && o.To == p.To &&
		o.Off == p.Off && o.Len == p.Len && bytes.Equal(o.Data, p.Data) &&
		o.Made == p.Made && o.Pick == p.Pick
}

// kind is how operations of one kind stand in bytes: the parts behind the kind itself.
type kind struct {
	parts func(*api.Op) []part
}

// kinds gives them by their numbers; there is none at 0.
func kinds() []kind {
	return []kind{
		api.OpCreate:   {pathMade},
		api.OpMkdir:    {pathMade},
		api.OpLink:     {pathTo},
		api.OpUnlink:   {pathAlone},
		api.OpRmdir:    {pathAlone},
		api.OpRename:   {pathTo},
		api.OpWrite:    {pathOffData},
		api.OpTruncate: {pathOff},
		api.OpRead:     {pathOffLen},
		api.OpStat:     {pathAlone},
		api.OpList:     {pathAlone},
		api.OpSync:     {nothing},
		api.OpFsync:    {pathAlone},
		api.OpFlush:    {pickAlone},
	}
}

// kindOf is the kind of that number.
func kindOf(number int) (kind, error) {
	all := kinds()
	if number < api.OpCreate || number >= len(all) {
		return kind{}, fault{"there is no such kind"}
	}
	return all[number], nil
}

func nothing(*api.Op) []part { return nil }

func pathAlone(o *api.Op) []part { return []part{text{&o.Path, api.MaxPath}} }

func pathTo(o *api.Op) []part {
	return []part{text{&o.Path, api.MaxPath}, text{&o.To, api.MaxPath}}
}

func pathOff(o *api.Op) []part {
	return []part{text{&o.Path, api.MaxPath}, long{&o.Off, maxLong}}
}

func pathOffLen(o *api.Op) []part {
	return []part{text{&o.Path, api.MaxPath}, long{&o.Off, maxLong}, long{&o.Len, maxLong}}
}

func pathOffData(o *api.Op) []part {
	return []part{text{&o.Path, api.MaxPath}, long{&o.Off, maxLong}, data{&o.Data}}
}

func pathMade(o *api.Op) []part {
	return []part{text{&o.Path, api.MaxPath}, long{&o.Made, api.MaxMade}}
}

func pickAlone(o *api.Op) []part { return []part{count{&o.Pick}} }
