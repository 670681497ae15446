package space_test

import (
	"slices"

	"breakwater/api"
	"breakwater/space"
)

// What a data sector is; an inode is inUse or free alone.
const (
	free = iota
	inUse
	freeLater
)

// plain is a space, written of the words of the chapter alone: what each number is, from 0 on.
type plain struct {
	x    api.Super
	what []int
}

func newPlain(x api.Super, inodes, blocks []int) *plain {
	p := &plain{x, make([]int, x.Sectors)}
	for _, i := range slices.Concat([]int{1}, inodes, blocks) {
		p.what[i] = inUse
	}
	return p
}

func (p *plain) isInode(i int) bool { return i >= 1 && i <= p.x.Inodes }

func (p *plain) isBlock(b int) bool { return b > p.x.Inodes && b < p.x.Sectors }

func (p *plain) take(from, end int, none api.Errno) (int, api.Errno) {
	for i := from; i < end; i++ {
		if p.what[i] == free {
			p.what[i] = inUse
			return i, api.OK
		}
	}
	return 0, none
}

func (p *plain) TakeBlock() (int, api.Errno) {
	return p.take(p.x.Inodes+1, p.x.Sectors, api.ErrSpaceBlocks)
}

func (p *plain) TakeInode() (int, api.Errno) {
	return p.take(1, p.x.Inodes+1, api.ErrSpaceInodes)
}

func (p *plain) FreeInode(i int) api.Errno {
	if !p.isInode(i) || p.what[i] == free || i == 1 {
		return api.ErrSpacePlace
	}
	p.what[i] = free
	return api.OK
}

func (p *plain) Later(b int) api.Errno {
	if !p.isBlock(b) || p.what[b] != inUse {
		return api.ErrSpacePlace
	}
	p.what[b] = freeLater
	return api.OK
}

func (p *plain) Landed(blocks ...int) api.Errno {
	if slices.ContainsFunc(blocks, func(b int) bool { return !p.isBlock(b) }) {
		return api.ErrSpacePlace
	}
	for _, b := range blocks {
		if p.what[b] == freeLater {
			p.what[b] = free
		}
	}
	return api.OK
}

func (p *plain) Used(i int) bool { return p.isInode(i) && p.what[i] == inUse }

func (p *plain) Room() api.Room {
	var r api.Room
	for i, what := range p.what {
		switch {
		case p.isInode(i) && what == free:
			r.Inodes++
		case p.isBlock(i) && what == free:
			r.Blocks++
		case p.isBlock(i) && what == freeLater:
			r.Blocks++
			r.Later++
		}
	}
	return r
}

// are the numbers of one kind, from one on and ahead of another.
func (p *plain) are(what, from, end int) []int {
	var list []int
	for i := from; i < end; i++ {
		if p.what[i] == what {
			list = append(list, i)
		}
	}
	return list
}

// both is a space and the plain one that was told the same.
type both struct {
	s *space.Space
	p *plain
}

// spaces is what both answer to.
type spaces interface {
	TakeBlock() (int, api.Errno)
	TakeInode() (int, api.Errno)
	FreeInode(i int) api.Errno
	Later(b int) api.Errno
	Landed(blocks ...int) api.Errno
}

// call is one that is made on both; its answer is a number and an error.
type call struct {
	name string
	ask  func(s spaces) (int, api.Errno)
}

func takeBlockCall() call { return call{"TakeBlock", spaces.TakeBlock} }

func takeInodeCall() call { return call{"TakeInode", spaces.TakeInode} }

func freeInodeCall(i int) call {
	return call{"FreeInode", func(s spaces) (int, api.Errno) { return i, s.FreeInode(i) }}
}

func laterCall(b int) call {
	return call{"Later", func(s spaces) (int, api.Errno) { return b, s.Later(b) }}
}

func landedCall(blocks ...int) call {
	return call{"Landed", func(s spaces) (int, api.Errno) { return 0, s.Landed(slices.Clone(blocks)...) }}
}
