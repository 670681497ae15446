package look_test

import (
	"slices"
	"strings"
	"testing"

	"breakwater/api"
)

// full is an image in which file 2 has all 1068 blocks and 34 tables, from sector 6 on: the single table, the double one, those to which it leads, the blocks. Slot 5 names it.
func full(t *testing.T, sectors int) *draft {
	t.Helper()
	d := draftOf(t, sectors, 4)
	d.inode(1, root(d.give()))
	d.slot(5, 2, "a")
	d.grow(2, file(136704), upTo(0, 1067)...)
	return d
}

// resize gives an inode another size, and leaves all else.
func (d *draft) resize(i, size int) {
	for at := range 4 {
		d.image[i][4+at] = byte(size >> (8 * at))
	}
}

// sizes are those at which a last block is one at an edge, and such as end within a block.
func sizes() []int {
	l := list(0, 1, 127, 128, 129, 255, 256, 257, 136704)
	for _, k := range list(10, 11, 12, 13, 42, 43, 44, 45, 74, 75, 76, 77, 107, 108, 1035, 1036, 1066, 1067) {
		l = append(l, 128*k, 128*k+1, 128*k+127, 128*k+128)
	}
	return slices.DeleteFunc(l, func(n int) bool { return n > 136704 })
}

func TestPointersBehindTheSize(t *testing.T) { // P12.1: of a file that has all pointers those stay that lead to its blocks
	d := full(t, 1200)
	for n := 6 + 34; n < 1200; n++ {
		d.image[n] = api.Sector{0: 1, 1: 2, 126: 3, 127: 4}
	}
	for _, size := range sizes() {
		d.resize(2, size)
		n := (size + 127) / 128
		r := hold(t, d.image)
		blocks := n + 1
		if n > 12 {
			blocks++
		}
		if n > 44 {
			blocks += 1 + (n-44+31)/32
		}
		if len(r.Blocks) != blocks || !slices.Equal(r.Inodes, list(1, 2)) {
			t.Errorf("size %d: %d sectors are claimed, want %d", size, len(r.Blocks), blocks)
		}
		last := 6 + 34 + n - 1
		if size%128 != 0 && (!strings.HasSuffix(string(r.Want[last][:]), "\x00") || r.Write[len(r.Write)-1] != last) {
			t.Errorf("size %d: the last block is not wiped", size)
		}
		if size%128 == 0 && slices.ContainsFunc(r.Write, func(n int) bool { return n >= 6+34 }) {
			t.Errorf("size %d: a block was wiped", size)
		}
	}
}

func TestDirectoriesBehindTheSize(t *testing.T) { // P12.1: the same of a directory
	d := draftOf(t, 1200, 2)
	sectors := d.grow(1, api.Inode{Kind: api.KindDir, Links: 1, Size: 136704}, upTo(0, 1067)...)
	for _, size := range sizes() {
		if size%128 != 0 {
			continue
		}
		d.resize(1, size)
		last := max(size/128-1, 0)
		d.image[2], d.image[sectors[last]] = api.Sector{}, api.Sector{}
		d.inode(2, file(0))
		d.slot(sectors[last], 2, "last")
		want := list(1, 2)
		if size == 0 {
			want = list(1)
		}
		if r := hold(t, d.image); !slices.Equal(r.Inodes, want) {
			t.Errorf("size %d: %v", size, r.Inodes)
		}
		d.image[sectors[last]] = api.Sector{}
		if last < 1067 {
			d.slot(sectors[last+1], 2, "behind")
		}
		if r := hold(t, d.image); !slices.Equal(r.Inodes, list(1)) && size > 0 {
			t.Errorf("size %d: behind the end: %v", size, r.Inodes)
		}
		d.image[sectors[min(last+1, 1067)]] = api.Sector{}
	}
}

// places are where a pointer of file 2 may stand in the image that withPointer lays: in the inode, in the single table, in the double one, in one to which it leads.
const (
	inDirect = iota
	inSingle
	inDouble
	inInner
	asSingle
	asDouble
)

// withPointer is an image of 24 sectors, 4 inodes, in which one pointer is another. Without it inode 2 has Direct 6, Single 7, Double 9; table 7 has 8 at 0; table 9 has 10 at 0; table 10 has 11 at 0.
func withPointer(t *testing.T, place, to int) *draft {
	d := draftOf(t, 24, 4)
	d.inode(1, root(5))
	d.slot(5, 2, "a")
	x := file(136704, 6)
	x.Single, x.Double = 7, 9
	d.table(7, map[int]int{0: 8})
	d.table(9, map[int]int{0: 10})
	d.table(10, map[int]int{0: 11})
	switch place {
	case inDirect:
		x.Direct[11] = to
	case inSingle:
		d.table(7, map[int]int{31: to})
	case inDouble:
		d.table(9, map[int]int{31: to})
	case inInner:
		d.table(10, map[int]int{31: to})
	case asSingle:
		x.Single = to
	case asDouble:
		x.Double = to
	}
	d.inode(2, x)
	return d
}

func TestWherePointersLead(t *testing.T) { // P12.1: below the data sectors, at their ends, behind the image
	base := upTo(5, 11)
	for to, good := range map[int]bool{1: false, 2: false, 3: false, 4: false, 12: true, 13: true, 22: true, 23: true, 24: false, 25: false, 4095: false, 4096: false, 1 << 16: false, 1 << 31: false, far: false} {
		for _, place := range list(inDirect, inSingle, inDouble, inInner) {
			d := withPointer(t, place, to)
			if good && place == inDouble {
				d.table(to, map[int]int{0: 14, 31: 15})
			}
			want, write := slices.Clone(base), []int{}
			switch {
			case good && place == inDouble:
				want = append(want, to, 14, 15)
			case good:
				want = append(want, to)
			default:
				write = list(map[int]int{inDirect: 2, inSingle: 7, inDouble: 9, inInner: 10}[place])
			}
			slices.Sort(want)
			d.tells("a pointer", write, list(1, 2), want)
		}
	}
}

func TestWhereTablesLie(t *testing.T) { // P12.1
	for _, to := range list(1, 2, 4, 24, 25, far) {
		withPointer(t, asSingle, to).tells("single", list(2), list(1, 2), list(5, 6, 9, 10, 11))
		withPointer(t, asDouble, to).tells("double", list(2), list(1, 2), list(5, 6, 7, 8))
	}
	for _, to := range list(12, 23) {
		d := withPointer(t, asSingle, to)
		d.table(to, map[int]int{31: 13})
		want := list(5, 6, 9, 10, 11, 13, to)
		slices.Sort(want)
		d.tells("single", nil, list(1, 2), want)
		d.image[to] = api.Sector{}
		d.tells("a table without a pointer", list(2), list(1, 2), list(5, 6, 9, 10, 11))
	}
}

func TestPointersThatAreClaimed(t *testing.T) { // P12.1: by the same inode, by another one, by a table that leads to itself
	base := upTo(5, 11)
	for _, place := range list(inDirect, inSingle, inDouble, inInner) {
		write := list(map[int]int{inDirect: 2, inSingle: 7, inDouble: 9, inInner: 10}[place])
		for _, to := range list(5, 6) {
			withPointer(t, place, to).tells("claimed ahead", write, list(1, 2), base)
		}
	}
	withPointer(t, inSingle, 7).tells("single leads to itself", list(7), list(1, 2), base)
	withPointer(t, inSingle, 8).tells("twice in a table", list(7), list(1, 2), base)
	withPointer(t, inDouble, 9).tells("double leads to itself", list(9), list(1, 2), base)
	withPointer(t, inDouble, 10).tells("twice in the double table", list(9), list(1, 2), base)
	withPointer(t, inDouble, 11).tells("a block as a table", list(9), list(1, 2), base)
	withPointer(t, inInner, 9).tells("back to the double table", list(10), list(1, 2), base)
	withPointer(t, inInner, 10).tells("an inner one leads to itself", list(10), list(1, 2), base)
	withPointer(t, inInner, 7).tells("to the single table", list(10), list(1, 2), base)
	withPointer(t, asSingle, 6).tells("single is a block", list(2), list(1, 2), list(5, 6, 9, 10, 11))
	withPointer(t, asSingle, 5).tells("single is another's", list(2), list(1, 2), list(5, 6, 9, 10, 11))
	withPointer(t, asDouble, 7).tells("single and double", list(2), list(1, 2), upTo(5, 8))
	withPointer(t, asDouble, 8).tells("double is a block", list(2), list(1, 2), upTo(5, 8))
}

func TestWhoIsAheadClaims(t *testing.T) { // P12.1: Direct, the single table, the double one; each by its places
	r := withPointer(t, inDirect, 7).tells("direct ahead of single", list(2), list(1, 2), list(5, 6, 7, 9, 10, 11))
	d := withPointer(t, inDirect, 8)
	x := file(136704, 6)
	x.Direct[11], x.Double = 7, 9
	d.inodeIs("direct ahead of single", r, 2, x)
	d.tells("direct ahead of a block", list(2), list(1, 2), list(5, 6, 8, 9, 10, 11))
	withPointer(t, inDirect, 9).tells("direct ahead of double", list(2), list(1, 2), list(5, 6, 7, 8, 9))
	withPointer(t, inDirect, 10).tells("direct ahead of an inner table", list(2), list(1, 2), list(5, 6, 7, 8, 10))
	withPointer(t, inDirect, 11).tells("direct ahead of an inner block", list(2), list(1, 2), list(5, 6, 7, 8, 11))
	withPointer(t, inSingle, 9).tells("single's block ahead of double", list(2), list(1, 2), upTo(5, 9))
	withPointer(t, inSingle, 10).tells("single's block ahead of an inner table", list(2), list(1, 2), list(5, 6, 7, 8, 10))
	withPointer(t, inSingle, 11).tells("single's block ahead of an inner block", list(2), list(1, 2), list(5, 6, 7, 8, 11))
	withPointer(t, asSingle, 10).tells("single ahead of an inner table", list(2), list(1, 2), list(5, 6, 10, 11))
}

func TestBehindTheSizeNothingIsClaimed(t *testing.T) { // P12.1: what a pointer that leads there points to is another's
	for _, x := range []struct {
		size    int
		pointer func(x *api.Inode, d *draft)
		write   []int
	}{
		{128, func(x *api.Inode, d *draft) { x.Direct[1] = 9 }, list(2)},
		{12 * 128, func(x *api.Inode, d *draft) { x.Single = 9 }, list(2)},
		{44 * 128, func(x *api.Inode, d *draft) { x.Double = 9 }, list(2)},
		{13 * 128, func(x *api.Inode, d *draft) { x.Single = 7; d.table(7, map[int]int{0: 8, 1: 9}) }, list(7)},
		{45 * 128, func(x *api.Inode, d *draft) {
			x.Double = 7
			d.table(7, map[int]int{0: 8, 1: 9})
			d.table(8, map[int]int{0: 10})
		}, list(7)},
		{45 * 128, func(x *api.Inode, d *draft) {
			x.Double = 7
			d.table(7, map[int]int{0: 8})
			d.table(8, map[int]int{0: 10, 1: 9})
		}, list(8)},
	} {
		d := small(t, root(5, 6))
		d.slot(5, 2, "a")
		d.slot(6, 3, "b")
		d.inode(3, file(128, 9))
		a := file(x.size)
		x.pointer(&a, d)
		d.inode(2, a)
		r := d.tells("behind the size", x.write, list(1, 2, 3), hold(t, d.image).Blocks)
		d.inodeIs("behind the size", r, 3, file(128, 9))
	}
}

func TestTablesOfWhichNoneIsLeft(t *testing.T) { // P12.1: by each of the reasons; their sectors stay as they were
	for _, p := range []map[int]int{{}, {0: 99}, {0: 7, 1: 5, 2: 4, 31: far}, {20: 8, 31: 9}, {0: 6, 20: 8}} {
		d := small(t, root(5))
		d.slot(5, 2, "a")
		x := file(128*15, 6)
		x.Single = 7
		d.inode(2, x)
		d.table(7, p)
		r := d.tells("single", list(2), list(1, 2), list(5, 6))
		x.Single = 0
		d.inodeIs("single", r, 2, x)
		x.Double, x.Size = 8, 128*76+1
		d.inode(2, x)
		d.image[7] = api.Sector{}
		d.table(8, p)
		if p[20] != 0 || p[0] == 7 {
			continue // it is about tables here
		}
		r = d.tells("double", list(2), list(1, 2), list(5, 6))
		x.Double = 0
		d.inodeIs("double", r, 2, x)
		if r.Want[8] != d.image[8] {
			t.Error("double: it was changed")
		}
	}
}

func TestDoubleTablesOfWhichNoneOrOneIsLeft(t *testing.T) { // P12.1
	d := small(t, root(5))
	d.slot(5, 2, "a")
	x := file(136704)
	x.Double = 6
	d.inode(2, x)
	d.table(6, map[int]int{0: 7, 3: 8, 31: 9})
	d.table(7, map[int]int{4: 99})
	d.table(8, map[int]int{0: 8, 1: 6, 2: 5})
	r := d.tells("none", list(2), list(1, 2), list(5))
	d.inodeIs("none", r, 2, file(136704))
	for n := range d.image {
		if n > 2 && r.Want[n] != d.image[n] {
			t.Errorf("none: sector %d was changed", n)
		}
	}
	d.table(8, map[int]int{31: 10})
	r = d.tells("one", list(6, 8), list(1, 2), list(5, 6, 8, 10))
	d.inodeIs("one", r, 2, x)
	d.tableIs("one", r, 6, api.Pointers{3: 8})
	d.tableIs("one", r, 8, api.Pointers{31: 10})
	d.tableIs("one", r, 7, api.Pointers{4: 99})
	d.table(9, map[int]int{31: 11})
	r = d.tells("two", list(6, 8), list(1, 2), list(5, 6, 8, 9, 10, 11))
	d.tableIs("two", r, 6, api.Pointers{3: 8, 31: 9})
	x.Size = 128 * (44 + 32*31)
	d.inode(2, x)
	r = d.tells("one behind the end", list(6, 8), list(1, 2), list(5, 6, 8, 10))
	d.tableIs("one behind the end", r, 6, api.Pointers{3: 8})
}

// one is a table with one pointer.
func one(place, to int) api.Pointers {
	var p api.Pointers
	p[place] = to
	return p
}

func TestOneIsLeftAtEachPlace(t *testing.T) { // P12.1
	for k := range 32 {
		d := small(t, root(5))
		d.slot(5, 2, "a")
		x := file(136704)
		x.Single, x.Double = 6, 7
		d.inode(2, x)
		for place := range 32 {
			d.table(6, map[int]int{place: 99})
			d.table(7, map[int]int{place: 4})
			d.table(8, map[int]int{place: 100 + place})
		}
		d.table(6, map[int]int{k: 9})
		d.table(7, map[int]int{k: 8})
		d.table(8, map[int]int{31 - k: 15})
		r := d.tells("one", list(6, 7, 8), list(1, 2), list(5, 6, 7, 8, 9, 15))
		d.tableIs("one", r, 6, one(k, 9))
		d.tableIs("one", r, 7, one(k, 8))
		d.tableIs("one", r, 8, one(31-k, 15))
	}
}

func TestClaimedNoMoreWithinOneInode(t *testing.T) { // P12.1: and by a later pointer of it, as a block or a table
	d := small(t, root(5))
	d.slot(5, 2, "a")
	x := file(136704)
	x.Single, x.Double = 7, 7
	d.inode(2, x)
	d.table(7, map[int]int{1: 99, 2: 8})
	d.table(8, map[int]int{0: 9})
	d.resize(2, 128*14)
	r := d.tells("single, behind the end", list(2), list(1, 2), list(5))
	d.inodeIs("single, behind the end", r, 2, file(128*14))
	x = file(128 * 200)
	x.Double = 6
	d.inode(2, x)
	d.image[7], d.image[8] = api.Sector{}, api.Sector{}
	d.table(6, map[int]int{0: 7, 1: 8, 2: 7})
	d.table(7, map[int]int{0: 6, 1: 7})
	d.table(8, map[int]int{0: 9, 1: 7})
	r = d.tells("a table as a block", list(6), list(1, 2), list(5, 6, 7, 8, 9))
	d.tableIs("a table as a block", r, 6, api.Pointers{1: 8})
	d.tableIs("a table as a block", r, 8, api.Pointers{9, 7})
	if r.Want[7] != d.image[7] {
		t.Error("it was changed")
	}
}

func TestClaimedNoMoreAndTwiceATable(t *testing.T) { // P12.1: what was behind the end of one is within another
	d := small(t, root(5, 6))
	d.slot(5, 2, "a")
	d.slot(6, 3, "b")
	x, y := file(128*13), file(128*16)
	x.Single, y.Single = 7, 7
	d.inode(2, x)
	d.inode(3, y)
	d.table(7, map[int]int{0: 99, 1: 8, 2: 3, 3: 9, 4: 10})
	r := d.tells("a table of a later one", list(7, 2), list(1, 2, 3), list(5, 6, 7, 8, 9))
	d.inodeIs("a table of a later one", r, 2, file(128*13))
	d.inodeIs("a table of a later one", r, 3, y)
	d.tableIs("a table of a later one", r, 7, api.Pointers{1: 8, 3: 9})
	y.Single, y.Double, y.Size = 0, 7, 136704
	d.inode(3, y)
	d.table(9, map[int]int{8: 11})
	d.bytes(10, "bytes")
	r = d.tells("a double table of a later one", list(7, 2), list(1, 2, 3), list(5, 6, 7, 9, 11))
	d.tableIs("a double table of a later one", r, 7, api.Pointers{3: 9})
}

func TestClaimedNoMoreAndASlot(t *testing.T) { // P12.1: a slot of a later directory, an entry or none
	d := small(t, root(5, 6))
	d.slot(5, 2, "a")
	d.slot(6, 3, "b")
	x := file(128 * 13)
	x.Single = 7
	d.inode(2, x)
	d.inode(3, root(7))
	d.slot(7, 4, "c")
	d.inode(4, file(0))
	d.table(7, map[int]int{0: 4})
	d.tells("an entry", list(2), list(1, 2, 3, 4), list(5, 6, 7))
	d.inode(4, api.Inode{})
	r := d.tells("none", list(7, 2), list(1, 2, 3), list(5, 6, 7))
	if r.Want[7] != (api.Sector{}) {
		t.Error(r.Want[7])
	}
}

func TestClaimedNoMoreAndBytes(t *testing.T) { // P12.1, P12.5: wiped when nothing takes it for a table any more
	for size := 1; size <= 128; size++ {
		d := small(t, root(5, 6))
		d.slot(5, 2, "a")
		d.slot(6, 3, "b")
		x := file(128 * 44)
		x.Single = 8
		d.inode(2, x)
		d.inode(3, file(size, 8))
		for k := range 32 {
			d.table(8, map[int]int{k: 1<<24 | 2<<16 | 3<<8 | 9 + k%7})
		}
		want := list(2, 8)
		if size == 128 {
			want = list(2)
		}
		r := d.tells("bytes", want, list(1, 2, 3), list(5, 6, 8))
		if string(r.Want[8][:size]) != string(d.image[8][:size]) || !zeros(r.Want[8][size:]) {
			t.Errorf("size %d: %v", size, r.Want[8])
		}
	}
}

func TestTailsOfFiles(t *testing.T) { // P12.1: wiped from Size mod 128 on, if the last block is there
	for _, last := range list(0, 1, 11, 12, 43, 44, 75, 76, 1036, 1067) {
		for _, rest := range list(1, 2, 64, 126, 127, 128) {
			d := draftOf(t, 40, 4)
			d.inode(1, root(d.give()))
			d.slot(5, 2, "a")
			n := d.grow(2, file(128*last+rest), last)[0]
			d.bytes(n, strings.Repeat("x", rest)+"\x00\x00")
			d.tells("no tail", nil, list(1, 2), upTo(5, n))
			d.bytes(n, strings.Repeat("x", 128))
			write := list(n)
			if rest == 128 {
				write = nil
			}
			r := d.tells("a tail", write, list(1, 2), upTo(5, n))
			if string(r.Want[n][:]) != strings.Repeat("x", rest)+strings.Repeat("\x00", 128-rest) {
				t.Errorf("block %d, %d: %q", last, rest, r.Want[n][:])
			}
		}
	}
}

func TestLastBlocksThatAreHoles(t *testing.T) { // P12.1: another block is not wiped for it
	for _, last := range list(1, 11, 12, 13, 43, 44, 45, 76, 1067) {
		d := draftOf(t, 40, 4)
		d.inode(1, root(d.give()))
		d.slot(5, 2, "a")
		n := d.grow(2, file(128*last+5), last-1)[0]
		d.bytes(n, strings.Repeat("x", 128))
		d.tells("a hole", nil, list(1, 2), upTo(5, n))
	}
	d := small(t, root(5))
	d.slot(5, 2, "a")
	d.inode(2, file(129, 6, 99))
	d.bytes(6, strings.Repeat("x", 128))
	r := d.tells("it becomes a hole", list(2), list(1, 2), list(5, 6))
	d.inodeIs("it becomes a hole", r, 2, file(129, 6))
	d.inode(2, file(5))
	d.tells("no block at all", nil, list(1, 2), list(5))
}

func TestAFileOfHoles(t *testing.T) { // P12.4
	d := small(t, root(5))
	d.slot(5, 2, "a")
	for _, size := range sizes() {
		d.inode(2, file(size))
		d.tells("holes", nil, list(1, 2), list(5))
	}
}

func TestAFullDisk(t *testing.T) { // P12.4: every data sector is claimed, and nothing is written
	full(t, 1108).tells("full", nil, list(1, 2), upTo(5, 1107))
}
