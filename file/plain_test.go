package file_test

import (
	"encoding/binary"
	"maps"
	"slices"
	"testing"

	"breakwater/api"
)

// plain does what the words of the chapter say, on a cache and a space of its own. It knows of each inode which block is where, and reads no table.
type plain struct {
	*rig // its files are not asked
	made map[int]*plainFile
}

// plainFile is an inode: blocks and tables by their indexes, and their sectors.
type plainFile struct {
	kind, links, size, stamp int
	at                       map[int]int
	single, double           int
	inner                    map[int]int
}

func plainOf(t *testing.T, sectors, inodes int) *plain {
	t.Helper()
	return &plain{rigOf(t, sectors, inodes), map[int]*plainFile{}}
}

func number(s *api.Sector, at, v int) { binary.LittleEndian.PutUint32(s[at:], uint32(v)) }

// sector is the inode's.
func (x *plainFile) sector() api.Sector {
	var s api.Sector
	s[0], s[1] = byte(x.kind), byte(x.links)
	number(&s, 4, x.size)
	number(&s, 8, x.stamp)
	for k := range 12 {
		number(&s, 16+4*k, x.at[k])
	}
	number(&s, 64, x.single)
	number(&s, 68, x.double)
	return s
}

// table is that of the blocks from first on.
func (x *plainFile) table(first int) api.Sector {
	var s api.Sector
	for k := range 32 {
		number(&s, 4*k, x.at[first+k])
	}
	return s
}

// doubleTable is the double one.
func (x *plainFile) doubleTable() api.Sector {
	var s api.Sector
	for k := range 32 {
		number(&s, 4*k, x.inner[k])
	}
	return s
}

// own are all its sectors, rising.
func (x *plainFile) own() []int {
	list := append(slices.Collect(maps.Values(x.at)), slices.Collect(maps.Values(x.inner))...)
	if x.single != 0 {
		list = append(list, x.single)
	}
	if x.double != 0 {
		list = append(list, x.double)
	}
	slices.Sort(list)
	return list
}

// need is how many sectors blocks need that are not there.
func (x *plainFile) need(list []api.Block) int {
	missing := map[[2]int]int{}
	for _, b := range list {
		if x.at[b.Index] != 0 {
			continue
		}
		missing[[2]int{0, b.Index}]++
		if b.Index >= 12 && b.Index < 44 && x.single == 0 {
			missing[[2]int{1, 0}]++
		}
		if b.Index >= 44 && x.double == 0 {
			missing[[2]int{2, 0}]++
		}
		if k := (b.Index - 44) / 32; b.Index >= 44 && x.inner[k] == 0 {
			missing[[2]int{3, k}]++
		}
	}
	return len(missing)
}

func (p *plain) settle() api.Errno { return p.s.Landed(p.c.Landed()...) }

func (p *plain) ensure(need int) api.Errno {
	p.settle()
	x := p.s.Room()
	if x.Blocks < need {
		return api.ErrSpaceBlocks
	}
	if x.Blocks-x.Later < need {
		if e := p.c.Sync(); e != api.OK {
			return e
		}
		return p.settle()
	}
	return api.OK
}

func (p *plain) take() int {
	n, e := p.s.TakeBlock()
	p.is("TakeBlock", e, api.OK)
	return n
}

func (p *plain) put(i int, kind, links int, after []int) api.Errno {
	x := p.made[i]
	if x == nil {
		x = &plainFile{at: map[int]int{}, inner: map[int]int{}}
		p.made[i] = x
	}
	x.kind, x.links, x.stamp = kind, links, 100+i
	return p.c.Put(i, x.sector(), after...)
}

func (p *plain) lay(i, size int, list []api.Block) api.Errno {
	x := p.made[i]
	if e := p.ensure(x.need(list)); e != api.OK {
		return e
	}
	var entered []int
	for _, b := range list {
		n, hole := x.at[b.Index], x.at[b.Index] == 0
		if hole {
			n = p.take()
		}
		if e := p.c.Put(n, b.Data, b.After...); e != api.OK {
			return e
		}
		if !hole {
			continue
		}
		x.at[b.Index] = n
		came, e := p.hang(x, b.Index, n)
		if e != api.OK {
			return e
		}
		entered = append(entered, came...)
	}
	if size > x.size || len(entered) > 0 {
		x.size = max(x.size, size)
		return p.c.Put(i, x.sector(), entered...)
	}
	return api.OK
}

// hang puts the tables on a block's way, and tells what comes into the inode.
func (p *plain) hang(x *plainFile, index, b int) ([]int, api.Errno) {
	if index < 12 {
		return []int{b}, api.OK
	}
	if index < 44 {
		was := x.single
		if was == 0 {
			x.single = p.take()
		}
		e := p.c.Put(x.single, x.table(12), b)
		if was == 0 {
			return []int{x.single}, e
		}
		return nil, e
	}
	k := (index - 44) / 32
	z := x.inner[k]
	if z == 0 {
		x.inner[k] = p.take()
	}
	if e := p.c.Put(x.inner[k], x.table(44+32*k), b); e != api.OK || z != 0 {
		return nil, e
	}
	y := x.double
	if y == 0 {
		x.double = p.take()
	}
	e := p.c.Put(x.double, x.doubleTable(), x.inner[k])
	if y == 0 {
		return []int{x.double}, e
	}
	return nil, e
}

func (p *plain) write(i, off int, data []byte) api.Errno {
	if len(data) == 0 {
		return api.OK
	}
	x := p.made[i]
	var list []api.Block
	for at, v := range data {
		index := (off + at) / 128
		if len(list) == 0 || list[len(list)-1].Index != index {
			b := api.Block{Index: index}
			if n := x.at[index]; n != 0 {
				b.Data, _ = p.c.Read(n)
			}
			list = append(list, b)
		}
		list[len(list)-1].Data[(off+at)%128] = v
	}
	return p.lay(i, off+len(data), list)
}

// lose gives a sector up.
func (p *plain) lose(n, at int) {
	p.is("Drop", p.c.Drop(n), api.OK)
	p.is("Mark", p.c.Mark(at, n), api.OK)
	p.is("Later", p.s.Later(n), api.OK)
}

func (p *plain) truncate(i, size int) api.Errno {
	x := p.made[i]
	if size == x.size {
		return api.OK
	}
	if size > x.size {
		x.size = size
		return p.c.Put(i, x.sector())
	}
	if n := x.at[size/128]; size%128 != 0 && n != 0 {
		s, _ := p.c.Read(n)
		clear(s[size%128:])
		p.is("Put", p.c.Put(n, s), api.OK)
	}
	gone := map[int][]int{} // by the first block of their table, or 0
	for index, n := range x.at {
		if 128*index >= size {
			first := 0
			if index >= 44 {
				first = index - (index-44)%32
			} else if index >= 12 {
				first = 12
			}
			gone[first] = append(gone[first], n)
			delete(x.at, index)
		}
	}
	p.loseTables(i, x, gone)
	x.size = size
	p.is("Put", p.c.Put(i, x.sector()), api.OK)
	for _, n := range gone[0] {
		p.lose(n, i)
	}
	if e := p.fsync(i); e != api.OK {
		return e
	}
	return p.settle()
}

// loseTables lets tables go of which nothing is left: what goes with them into the inode is gone[0], too.
func (p *plain) loseTables(i int, x *plainFile, gone map[int][]int) {
	if x.single != 0 && x.table(12) == (api.Sector{}) {
		gone[0] = append(append(gone[0], gone[12]...), x.single)
		x.single = 0
	} else if len(gone[12]) > 0 {
		p.cutTable(x.single, x.table(12), gone[12])
	}
	var double []int
	for k := range 32 {
		first, z := 44+32*k, x.inner[k]
		if z != 0 && x.table(first) == (api.Sector{}) {
			double = append(append(double, gone[first]...), z)
			delete(x.inner, k)
		} else if len(gone[first]) > 0 {
			p.cutTable(z, x.table(first), gone[first])
		}
	}
	if x.double != 0 && len(x.inner) == 0 {
		gone[0] = append(append(gone[0], double...), x.double)
		x.double = 0
	} else if len(double) > 0 {
		p.cutTable(x.double, x.doubleTable(), double)
	}
}

// cutTable puts a table that stays, and gives up what it has lost.
func (p *plain) cutTable(n int, s api.Sector, lost []int) {
	p.is("Put", p.c.Put(n, s), api.OK)
	for _, b := range lost {
		p.lose(b, n)
	}
}

func (p *plain) fsync(i int) api.Errno {
	for _, n := range append(p.made[i].own(), i) {
		if e := p.c.Drain(n); e != api.OK {
			return e
		}
	}
	return api.OK
}

func (p *plain) free(i int, after []int) api.Errno {
	x := p.made[i]
	after = slices.Clone(after)
	for _, n := range x.own() {
		if x.kind == api.KindDir && slices.Contains(p.c.Dirty(), n) {
			after = append(after, n)
		}
	}
	if e := p.c.Put(i, api.Sector{}, after...); e != api.OK {
		return e
	}
	for _, n := range x.own() {
		if x.kind == api.KindFile {
			p.is("Drop", p.c.Drop(n), api.OK)
		}
		p.is("Mark", p.c.Mark(i, n), api.OK)
		p.is("Later", p.s.Later(n), api.OK)
	}
	delete(p.made, i)
	return p.s.FreeInode(i)
}

// inode is what an inode should say.
func (x *plainFile) inode() api.Inode {
	y := api.Inode{Kind: x.kind, Links: x.links, Size: x.size, Made: x.stamp, Single: x.single, Double: x.double}
	for k := range y.Direct {
		y.Direct[k] = x.at[k]
	}
	return y
}
