package look_test

import (
	"encoding/binary"
	"slices"
	"strings"

	"breakwater/api"
)

// What stands in sectors, read byte by byte: no other layer is asked what they mean.

func number(s api.Sector, at int) int { return int(binary.LittleEndian.Uint32(s[at:])) }

func zeros(s []byte) bool { return strings.Trim(string(s), "\x00") == "" }

// superIs is what a first sector says; not: it is none.
func superIs(s api.Sector) (x api.Super, not bool) {
	x = api.Super{Sectors: number(s, 4), Inodes: number(s, 8)}
	bad := string(s[:4]) != "BRKW" || !zeros(s[12:]) || x.Sectors < 8 || x.Sectors > 4096 || x.Inodes < 1 || x.Inodes > 512 || x.Inodes+2 > x.Sectors
	return x, bad
}

// readable tells whether a sector is an inode's, a free one's too.
func readable(s api.Sector) bool {
	if s[0] == 0 {
		return s == api.Sector{}
	}
	made := binary.LittleEndian.Uint64(s[8:])
	size := number(s, 4)
	return s[0] <= 2 && s[1] <= 100 && s[2] == 0 && s[3] == 0 && size <= 136704 && (s[0] == 1 || size%128 == 0) && made <= 1<<40 && zeros(s[72:])
}

// slotIs is what a slot's sector says; not: it is none.
func slotIs(s api.Sector) (slot api.Slot, not bool) {
	if zeros(s[:]) {
		return api.Slot{}, false
	}
	i, size := number(s, 0), int(s[4])
	if i < 1 || i > 512 || size < 1 || size > 40 || !zeros(s[5+size:]) {
		return api.Slot{}, true
	}
	name := string(s[5 : 5+size])
	return api.Slot{Ino: i, Name: name}, strings.ContainsAny(name, "\x00/") || name == "." || name == ".."
}

// blocksOf is how many blocks an inode has, holes too.
func blocksOf(inode api.Sector) int { return (number(inode, 4) + 127) / 128 }

// plain does what the words of the chapter say, one by one, with rows in the place of sets.
type plain struct {
	image, w []api.Sector
	inodes   int
	claimed  []bool
	order    []int // inodes, as they were taken up
	entries  []int // by inodes
}

// plainLook is what Look must answer.
func plainLook(image []api.Sector) (api.Report, api.Errno) {
	if len(image) < 8 || len(image) > 4096 {
		return api.Report{}, 120
	}
	super, not := superIs(image[0])
	if not || super.Sectors != len(image) {
		return api.Report{}, 120
	}
	if !readable(image[1]) || image[1][0] != 2 {
		return api.Report{}, 121
	}
	p := &plain{image: image, w: append([]api.Sector{}, image...), inodes: super.Inodes, claimed: make([]bool, len(image)), entries: make([]int, super.Inodes+1)}
	p.take(1)
	p.entries[1] = 1
	for at := 0; at < len(p.order); at++ { // it grows meanwhile
		if d := p.order[at]; image[d][0] == 2 {
			p.slots(d)
		}
	}
	return p.tell(), 0
}

func (p *plain) put(n, at, v int) { binary.LittleEndian.PutUint32(p.w[n][at:], uint32(v)) }

// ask asks a pointer, and tells whether it stays.
func (p *plain) ask(n, at int, behind bool) bool {
	v := number(p.w[n], at)
	if v == 0 {
		return false
	}
	if behind || v <= p.inodes || v >= len(p.w) || p.claimed[v] {
		p.put(n, at, 0)
		return false
	}
	p.claimed[v] = true
	return true
}

// table goes to the table to which a pointer leads, and through it.
func (p *plain) table(n, at, first, count int) {
	if p.ask(n, at, count <= first) {
		p.through(n, at, func(t int) {
			for k := range 32 {
				p.ask(t, 4*k, first+k >= count)
			}
		})
	}
}

// through does what is done with a table, and takes it back if no pointer is left.
func (p *plain) through(n, at int, each func(t int)) {
	t := number(p.w[n], at)
	old := p.w[t]
	each(t)
	if zeros(p.w[t][:]) {
		p.w[t] = old
		p.claimed[t] = false
		p.put(n, at, 0)
	}
}

func (p *plain) take(i int) {
	p.order = append(p.order, i)
	count := blocksOf(p.image[i])
	for k := range 12 {
		p.ask(i, 16+4*k, k >= count)
	}
	p.table(i, 64, 12, count)
	if p.ask(i, 68, count <= 44) {
		p.through(i, 68, func(t int) {
			for k := range 32 {
				p.table(t, 4*k, 44+32*k, count)
			}
		})
	}
	rest := number(p.image[i], 4) % 128
	if last := p.sector(i, count-1); p.image[i][0] == 1 && rest != 0 && last != 0 {
		clear(p.w[last][rest:])
	}
}

// sector is that of a block, by what is left of the pointers; 0: a hole.
func (p *plain) sector(i, k int) int {
	switch {
	case k < 0:
		return 0
	case k < 12:
		return number(p.w[i], 16+4*k)
	case k < 44:
		return p.follow(number(p.w[i], 64), k-12)
	}
	return p.follow(p.follow(number(p.w[i], 68), (k-44)/32), (k-44)%32)
}

func (p *plain) follow(t, place int) int {
	if t == 0 {
		return 0
	}
	return number(p.w[t], 4*place)
}

func (p *plain) slots(d int) {
	var names []string
	for k := range blocksOf(p.image[d]) {
		n := p.sector(d, k)
		if n == 0 || zeros(p.w[n][:]) {
			continue
		}
		s, not := slotIs(p.w[n])
		if not || slices.Contains(names, s.Name) || !p.named(s.Ino) {
			p.w[n] = api.Sector{}
			continue
		}
		names = append(names, s.Name)
		p.entries[s.Ino]++
		if !slices.Contains(p.order, s.Ino) {
			p.take(s.Ino)
		}
	}
}

// named tells whether one more entry may name an inode.
func (p *plain) named(i int) bool {
	if i > p.inodes || i == 1 {
		return false
	}
	if slices.Contains(p.order, i) {
		return p.image[i][0] == 1 && p.entries[i] < 100
	}
	return readable(p.image[i]) && p.image[i][0] != 0
}

func (p *plain) tell() api.Report {
	r := api.Report{Want: p.w, Inodes: slices.Clone(p.order)}
	slices.Sort(r.Inodes)
	for i := 1; i <= p.inodes; i++ {
		if slices.Contains(p.order, i) {
			p.w[i][1] = byte(p.entries[i])
		} else {
			p.w[i] = api.Sector{}
		}
	}
	bytes := map[int]bool{} // the sectors of files' blocks
	for _, i := range p.order {
		for k := range blocksOf(p.image[i]) {
			bytes[p.sector(i, k)] = bytes[p.sector(i, k)] || p.image[i][0] == 1
		}
	}
	for pass := range 3 {
		for n := range p.w {
			class := 0
			if n <= p.inodes {
				class = 1
			} else if bytes[n] {
				class = 2
			}
			if class == pass && p.w[n] != p.image[n] {
				r.Write = append(r.Write, n)
			}
		}
	}
	for n, is := range p.claimed {
		if is {
			r.Blocks = append(r.Blocks, n)
		}
	}
	return r
}
