package dump

import (
	"bytes"

	"breakwater/api"
)

// How many bytes a node's numbers have.
const (
	kindBytes   = 1
	madeBytes   = 8
	lengthBytes = 4
)

// Bytes is a tree's bytes.
func Bytes(nodes ...api.Node) ([]byte, api.Errno) {
	var b []byte
	for _, n := range nodes {
		if !fits(n) {
			return nil, api.ErrDumpBytes
		}
		b = appendNumber(b, n.Kind, kindBytes)
		b = appendNumber(b, n.Made, madeBytes)
		b = append(appendNumber(b, len(n.Path), lengthBytes), n.Path...)
		b = append(appendNumber(b, len(n.Same), lengthBytes), n.Same...)
		b = append(appendNumber(b, len(n.Data), lengthBytes), n.Data...)
	}
	return b, api.OK
}

// Read is the tree whose bytes these are.
func Read(b []byte) ([]api.Node, api.Errno) {
	var nodes []api.Node
	r := reader{rest: b}
	for len(r.rest) > 0 {
		n := r.node()
		if r.short || !fits(n) {
			return nil, api.ErrDumpBytes
		}
		nodes = append(nodes, n)
	}
	return nodes, api.OK
}

// fits tells whether a node has bytes.
func fits(n api.Node) bool {
	return inBounds(n) && len(n.Path) <= api.MaxPath && len(n.Same) <= api.MaxPath
}

// appendNumber lays a number behind b, its lowest byte first.
func appendNumber(b []byte, v, size int) []byte {
	for range size {
		b = append(b, byte(v))
		v >>= 8
	}
	return b
}

// reader takes bytes from the front.
type reader struct {
	rest  []byte
	short bool // more were wanted once than there were: what it told since is worth nothing
}

// node is the next one; it may be one that has no bytes.
func (r *reader) node() api.Node {
	var n api.Node
	n.Kind = r.number(kindBytes)
	n.Made = r.number(madeBytes)
	n.Path = string(r.list())
	n.Same = string(r.list())
	n.Data = bytes.Clone(r.list())
	return n
}

// list is a piece with its length ahead of it, in place.
func (r *reader) list() []byte { return r.take(r.number(lengthBytes)) }

// number is one whose lowest byte stands first; one of 8 bytes may be below 0.
func (r *reader) number(size int) int {
	v := 0
	for k, c := range r.take(size) {
		v |= int(c) << (8 * k)
	}
	return v
}

// take is so many bytes, in place.
func (r *reader) take(n int) []byte {
	if n > len(r.rest) {
		r.short = true
		return nil
	}
	piece := r.rest[:n]
	r.rest = r.rest[n:]
	return piece
}
