package layout_test

import (
	"math"
	"strings"
	"testing"

	"breakwater/api"
	"breakwater/layout"
)

const far = 1<<32 - 1 // the greatest pointer

// code is what a call answers beside a thing that may be, or may not.
func code(may bool, refusal api.Errno) api.Errno {
	if may {
		return api.OK
	}
	return refusal
}

// holdSuper holds what is written, and then read, against the plain form; so do the others below.
func holdSuper(t *testing.T, x api.Super) {
	t.Helper()
	want, may := plainSuper(x)
	if s, e := layout.SuperSector(x); s != want || e != code(may, api.ErrLayoutSuper) {
		t.Errorf("SuperSector(%v): %v, %d; want %v, may be: %v", x, s, e, want, may)
	}
	if y, e := layout.ReadSuper(want); may && (y != x || e != api.OK) {
		t.Errorf("%v is read back as %v, %d", x, y, e)
	}
}

func holdInode(t *testing.T, x api.Inode) {
	t.Helper()
	want, may := plainInode(x)
	if s, e := layout.InodeSector(x); s != want || e != code(may, api.ErrLayoutInode) {
		t.Errorf("InodeSector(%v): %v, %d; want %v, may be: %v", x, s, e, want, may)
	}
	if y, e := layout.ReadInode(want); may && (y != x || e != api.OK) {
		t.Errorf("%v is read back as %v, %d", x, y, e)
	}
}

func holdPointers(t *testing.T, x api.Pointers) {
	t.Helper()
	want, may := plainPointers(x)
	if s, e := layout.PointersSector(x); s != want || e != code(may, api.ErrLayoutPointers) {
		t.Errorf("PointersSector(%v): %v, %d; want %v, may be: %v", x, s, e, want, may)
	}
	if y := layout.ReadPointers(want); may && y != x {
		t.Errorf("%v is read back as %v", x, y)
	}
}

func holdSlot(t *testing.T, x api.Slot) {
	t.Helper()
	want, may := plainSlot(x)
	if s, e := layout.SlotSector(x); s != want || e != code(may, api.ErrLayoutSlot) {
		t.Errorf("SlotSector(%v): %v, %d; want %v, may be: %v", x, s, e, want, may)
	}
	if y, e := layout.ReadSlot(want); may && (y != x || e != api.OK) {
		t.Errorf("%v is read back as %v, %d", x, y, e)
	}
}

func TestSupersOfTheDocument(t *testing.T) { // P6.1, P6.5
	first := from(map[int]string{0: "BRKW\x40\x00\x00\x00\x10\x00\x00\x00"})
	if s, e := layout.SuperSector(api.Super{Sectors: 64, Inodes: 16}); s != first || e != api.OK {
		t.Errorf("{64, 16}: %v, %d", s, e)
	}
	for x, want := range map[api.Super]api.Errno{
		{Sectors: 7, Inodes: 1}: 60, {Sectors: 4097, Inodes: 1}: 60, {Sectors: 8, Inodes: 0}: 60, {Sectors: 8, Inodes: 7}: 60, {Sectors: 4096, Inodes: 513}: 60,
		{Sectors: 8, Inodes: 6}: 0, {Sectors: 514, Inodes: 512}: 0,
	} {
		if s, e := layout.SuperSector(x); e != want || (s == api.Sector{}) != (want != 0) {
			t.Errorf("%v: %v, %d; want %d", x, s, e, want)
		}
	}
	other, behind := first, first
	other[3], behind[12] = 'w', 1
	for _, s := range []api.Sector{other, behind, {}} {
		if x, e := layout.ReadSuper(s); x != (api.Super{}) || e != 60 {
			t.Errorf("ReadSuper of %v: %v, %d", s, x, e)
		}
	}
	for n, want := range map[int]bool{0: false, 16: false, 17: true, 63: true, 64: false, -1: false} {
		if layout.IsData(api.Super{Sectors: 64, Inodes: 16}, n) != want {
			t.Errorf("IsData of %d: not %v", n, want)
		}
	}
}

func TestInodesOfTheDocument(t *testing.T) { // P6.2
	x := api.Inode{Kind: 1, Links: 2, Size: 300, Made: 258, Direct: [12]int{20, 21, 22}, Single: 30}
	laid := from(map[int]string{0: "\x01\x02\x00\x00\x2c\x01\x00\x00\x02\x01\x00\x00\x00\x00\x00\x00\x14\x00\x00\x00\x15\x00\x00\x00\x16\x00\x00\x00", 64: "\x1e\x00\x00\x00"})
	if s, e := layout.InodeSector(x); s != laid || e != api.OK {
		t.Errorf("%v: %v, %d", x, s, e)
	}
	for _, x := range []api.Inode{{Kind: 0, Size: 1}, {Kind: 3}, {Kind: 2, Size: 100}, {Kind: 1, Links: 101}, {Kind: 1, Size: 136705}, {Kind: 1, Made: -1}, {Kind: 1, Single: 1 << 32}} {
		if s, e := layout.InodeSector(x); s != (api.Sector{}) || e != 61 {
			t.Errorf("%v: %v, %d", x, s, e)
		}
	}
	for _, x := range []api.Inode{{Kind: 1, Links: 100, Size: 136704, Made: 1 << 40, Double: far}, {Kind: 2, Size: 136704}, {}} {
		if s, e := layout.InodeSector(x); e != api.OK {
			t.Errorf("%v: %v, %d", x, s, e)
		}
	}
	if y, e := layout.ReadInode(api.Sector{}); y != (api.Inode{}) || e != api.OK {
		t.Errorf("zeros: %v, %d", y, e)
	}
	for _, at := range []int{2, 72, 127} {
		s := laid
		s[at] = 1
		if y, e := layout.ReadInode(s); y != (api.Inode{}) || e != 61 {
			t.Errorf("byte %d: %v, %d", at, y, e)
		}
	}
}

func TestPointersAndSlotsOfTheDocument(t *testing.T) { // P6.3, P6.4
	if s, e := layout.PointersSector(api.Pointers{5, 0, far}); s != from(map[int]string{0: "\x05\x00\x00\x00\x00\x00\x00\x00\xff\xff\xff\xff"}) || e != api.OK {
		t.Errorf("pointers: %v, %d", s, e)
	}
	for _, x := range []api.Pointers{{5, -1}, {5, 1 << 32}} {
		if s, e := layout.PointersSector(x); s != (api.Sector{}) || e != 62 {
			t.Errorf("%v: %v, %d", x, s, e)
		}
	}
	if s, e := layout.SlotSector(api.Slot{Ino: 7, Name: "ab"}); s != from(map[int]string{0: "\x07\x00\x00\x00\x02\x61\x62"}) || e != api.OK {
		t.Errorf("slot: %v, %d", s, e)
	}
	if s, e := layout.SlotSector(api.Slot{}); s != (api.Sector{}) || e != api.OK {
		t.Errorf("empty slot: %v, %d", s, e)
	}
	if x, e := layout.ReadSlot(api.Sector{}); x != (api.Slot{}) || e != api.OK {
		t.Errorf("zeros: %v, %d", x, e)
	}
	for _, x := range []api.Slot{{Name: "a"}, {Ino: 513, Name: "a"}, {Ino: 1}, {Ino: 1, Name: "a/b"}, {Ino: 1, Name: ".."}} {
		if s, e := layout.SlotSector(x); s != (api.Sector{}) || e != 63 {
			t.Errorf("%v: %v, %d", x, s, e)
		}
	}
	for _, bytes := range []string{"\x07\x00\x00\x00\x02abc", "\x07\x00\x00\x00\x2a" + strings.Repeat("x", 42), "\x07\x00\x00\x00\x01."} {
		if x, e := layout.ReadSlot(from(map[int]string{0: bytes})); x != (api.Slot{}) || e != 63 {
			t.Errorf("%q: %v, %d", bytes, x, e)
		}
	}
}

// edges are numbers around each limit that the chapter names, and at the ends of int.
func edges() []int {
	list := []int{math.MinInt, math.MinInt + 1, math.MinInt + 2, math.MaxInt - 2, math.MaxInt - 1, math.MaxInt}
	for _, limit := range []int{0, 2, 8, 100, 127, 128, 256, 512, 514, 4096, 1 << 16, 136704, 1 << 24, 1 << 31, 1 << 32, 1 << 40, 1 << 48, 1 << 56, 1 << 62, -128, -1 << 32} {
		list = append(list, limit-2, limit-1, limit, limit+1, limit+2)
	}
	return list
}

func TestSupersAtTheEdges(t *testing.T) { // P6.1, P6.6, R6
	inodes := edges()
	for n := -3; n <= 520; n++ {
		inodes = append(inodes, n)
	}
	for _, sectors := range append(edges(), 7, 8, 9, 64, 511, 512, 513, 514, 515, 4095, 4096, 4097) {
		for _, n := range inodes {
			holdSuper(t, api.Super{Sectors: sectors, Inodes: n})
		}
	}
}

// inodesBy are inodes with one number at each of their places in turn.
func inodesBy(base api.Inode, v int) []api.Inode {
	list := []api.Inode{base, base, base, base, base, base}
	list[0].Kind = v
	list[1].Links = v
	list[2].Size = v
	list[3].Made = v
	list[4].Single = v
	list[5].Double = v
	for i := range base.Direct {
		x := base
		x.Direct[i] = v
		list = append(list, x)
	}
	return list
}

func TestInodesAtTheEdges(t *testing.T) { // P6.2, P6.6, R6
	for kind := -1; kind <= 3; kind++ {
		full := api.Inode{Kind: kind, Links: 100, Size: 136704, Made: 1 << 40, Single: far, Double: far - 1}
		for i := range full.Direct {
			full.Direct[i] = 1<<24*i + i + 1
		}
		for _, base := range []api.Inode{{Kind: kind}, {Kind: kind, Links: 1, Size: 256, Made: 7}, full} {
			for _, v := range edges() {
				for _, x := range inodesBy(base, v) {
					holdInode(t, x)
				}
			}
		}
	}
}

func TestSizesOfDirectories(t *testing.T) { // P6.2
	for size := -130; size <= 136704+260; size++ {
		x := api.Inode{Kind: api.KindDir, Size: size}
		want := code(size >= 0 && size <= 136704 && size%128 == 0, api.ErrLayoutInode)
		if _, e := layout.InodeSector(x); e != want {
			t.Errorf("size %d of a directory: %d, want %d", size, e, want)
		}
	}
}

func TestPointersAtTheEdges(t *testing.T) { // P6.3, P6.6, R6
	var full api.Pointers
	for i := range full {
		full[i] = far - i*1000003
	}
	for _, base := range []api.Pointers{{}, full} {
		for i := range base {
			for _, v := range edges() {
				x := base
				x[i] = v
				holdPointers(t, x)
			}
		}
	}
}

// names are such as may be and such as may not.
func names() []string {
	list := []string{"", ".", "..", "...", ". ", " .", ".a", "a.", "..a", "/", "//", "a/", "/a", "./", "a/b", "\x00", "a\x00", "\x00a", "a\x00b", "BRKW", " ", "\xff", "\xc3/", "\xc3\x00", "\xe2\x82\xac", "\xe2\x82/"}
	for n := 1; n <= 48; n++ {
		list = append(list, strings.Repeat("x", n), strings.Repeat(".", n), strings.Repeat("\xfe", n))
		for _, b := range []string{"\x00", "/"} {
			list = append(list, strings.Repeat("y", n-1)+b, b+strings.Repeat("y", n-1), strings.Repeat("\xe2", n-1)+b)
		}
	}
	for _, n := range []int{122, 123, 124, 127, 128, 255, 256, 257, 258, 297, 5000} {
		list = append(list, strings.Repeat("z", n))
	}
	return list
}

func TestSlotsAtTheEdges(t *testing.T) { // P6.4, P6.6, R6
	for _, name := range names() {
		for _, ino := range append(edges(), 1, 7, 255, 256, 257, 511, 512, 513) {
			holdSlot(t, api.Slot{Ino: ino, Name: name})
		}
	}
	for ino := -1; ino <= 600; ino++ {
		holdSlot(t, api.Slot{Ino: ino, Name: "ab"})
		holdSlot(t, api.Slot{Ino: ino})
	}
}

func TestEachByteInANameAtEachPlace(t *testing.T) { // P6.4
	for at := range 40 {
		for b := range 256 {
			name := []byte(strings.Repeat("n", 40))
			name[at] = byte(b)
			holdSlot(t, api.Slot{Ino: 3, Name: string(name)})
			holdSlot(t, api.Slot{Ino: 3, Name: string(name[:at+1])})
		}
	}
}

func TestIsData(t *testing.T) { // P6.5
	for _, x := range []api.Super{{Sectors: 64, Inodes: 16}, {Sectors: 8, Inodes: 6}, {Sectors: 4096, Inodes: 512}, {}, {Sectors: 5, Inodes: 9}, {Sectors: -2, Inodes: -9}, {Sectors: math.MaxInt, Inodes: math.MinInt}, {Sectors: math.MinInt, Inodes: math.MaxInt}, {Sectors: math.MaxInt, Inodes: math.MaxInt - 2}} {
		for _, n := range append(edges(), -9, -8, -3, 5, 6, 7, 9, 16, 17, 63, 64, 65, 512, 513, 4095, x.Inodes, x.Sectors) {
			want := false
			switch {
			case n <= x.Inodes:
			case n < x.Sectors:
				want = true
			}
			if layout.IsData(x, n) != want {
				t.Errorf("IsData(%v, %d): not %v", x, n, want)
			}
		}
	}
}
