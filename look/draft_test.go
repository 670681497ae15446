package look_test

import (
	"encoding/binary"
	"slices"
	"testing"

	"breakwater/api"
	"breakwater/layout"
	"breakwater/look"
)

// far is the greatest pointer that may stand.
const far = 1<<32 - 1

// draft is an image that is being laid.
type draft struct {
	*testing.T
	image  []api.Sector
	inodes int
	least  int // the least data sector that give has not given yet
}

// draftOf is one with a first sector, and nothing else.
func draftOf(t *testing.T, sectors, inodes int) *draft {
	t.Helper()
	d := &draft{t, make([]api.Sector, sectors), inodes, inodes + 1}
	var e api.Errno
	if d.image[0], e = layout.SuperSector(api.Super{Sectors: sectors, Inodes: inodes}); e != api.OK {
		t.Fatalf("SuperSector: %d", e)
	}
	return d
}

// small is one of the chapter's examples: 16 sectors, 4 inodes (data sectors 5 to 15), and this root.
func small(t *testing.T, root api.Inode) *draft {
	t.Helper()
	d := draftOf(t, 16, 4)
	d.inode(1, root)
	return d
}

func (d *draft) inode(i int, x api.Inode) {
	d.Helper()
	s, e := layout.InodeSector(x)
	if e != api.OK {
		d.Fatalf("InodeSector(%+v): %d", x, e)
	}
	d.image[i] = s
}

func (d *draft) slot(n, i int, name string) {
	d.Helper()
	s, e := layout.SlotSector(api.Slot{Ino: i, Name: name})
	if e != api.OK {
		d.Fatalf("SlotSector(%d, %q): %d", i, name, e)
	}
	d.image[n] = s
}

// table lays pointers by their places.
func (d *draft) table(n int, pointers map[int]int) {
	for place, to := range pointers {
		binary.LittleEndian.PutUint32(d.image[n][4*place:], uint32(to))
	}
}

func (d *draft) bytes(n int, data string) { copy(d.image[n][:], data) }

// give is a data sector that was not given before.
func (d *draft) give() int {
	d.Helper()
	if d.least == len(d.image) {
		d.Fatal("no data sector is left")
	}
	d.least++
	return d.least - 1
}

// grow lays an inode of which these blocks are there, and tells their sectors. Those of tables are given first.
func (d *draft) grow(i int, x api.Inode, blocks ...int) []int {
	d.Helper()
	inner := map[int]int{}
	for _, k := range blocks {
		if k >= 12 && k < 44 && x.Single == 0 {
			x.Single = d.give()
		}
		if k >= 44 && x.Double == 0 {
			x.Double = d.give()
		}
		if place := (k - 44) / 32; k >= 44 && inner[place] == 0 {
			inner[place] = d.give()
			d.table(x.Double, map[int]int{place: inner[place]})
		}
	}
	var sectors []int
	for _, k := range blocks {
		n := d.give()
		sectors = append(sectors, n)
		switch {
		case k < 12:
			x.Direct[k] = n
		case k < 44:
			d.table(x.Single, map[int]int{k - 12: n})
		default:
			d.table(inner[(k-44)/32], map[int]int{(k - 44) % 32: n})
		}
	}
	d.inode(i, x)
	return sectors
}

// root is a directory with these slots' sectors.
func root(direct ...int) api.Inode {
	x := api.Inode{Kind: api.KindDir, Links: 1, Size: 128 * len(direct)}
	copy(x.Direct[:], direct)
	return x
}

// file is one of that size, with these blocks.
func file(size int, direct ...int) api.Inode {
	x := api.Inode{Kind: api.KindFile, Links: 1, Size: size}
	copy(x.Direct[:], direct)
	return x
}

func list(n ...int) []int { return n }

// upTo are the numbers from one to another, both among them.
func upTo(from, to int) []int {
	var l []int
	for n := from; n <= to; n++ {
		l = append(l, n)
	}
	return l
}

// same tells whether two reports are one.
func same(a, b api.Report) bool {
	return slices.Equal(a.Want, b.Want) && slices.Equal(a.Write, b.Write) && slices.Equal(a.Inodes, b.Inodes) && slices.Equal(a.Blocks, b.Blocks)
}

// hold holds a look at any image to the plain one, and to all that follows.
func hold(t *testing.T, image []api.Sector) api.Report {
	t.Helper()
	before := slices.Clone(image)
	r, e := look.Look(image)
	want, wantError := plainLook(before)
	if e != wantError || !same(r, want) {
		t.Fatalf("Look: %d, Write %v, Inodes %v, Blocks %v; want %d, %v, %v, %v", e, r.Write, r.Inodes, r.Blocks, wantError, want.Write, want.Inodes, want.Blocks)
	}
	if !slices.Equal(image, before) {
		t.Error("the image was changed")
	}
	if e == api.OK {
		holdFollow(t, image, r)
	}
	return r
}

// holdFollow holds what follows (P12.3 to P12.6).
func holdFollow(t *testing.T, image []api.Sector, r api.Report) {
	t.Helper()
	if why := ill(r.Want); why != "" || r.Want[0] != image[0] {
		t.Errorf("Want is not well-formed: %s", why)
	}
	if why := nowhere(image, r.Want); why != "" {
		t.Errorf("from nowhere: %s", why)
	}
	if ill(image) == "" && len(r.Write) > 0 {
		t.Errorf("well-formed, and to be written: %v", r.Write)
	}
	now := slices.Clone(image)
	for k := 0; ; k++ {
		again, e := look.Look(now)
		if left := (api.Report{Want: r.Want, Write: r.Write[k:], Inodes: r.Inodes, Blocks: r.Blocks}); e != api.OK || !same(again, left) {
			t.Fatalf("behind %v: %d, Write %v, Inodes %v, Blocks %v; want %v, %v, %v", r.Write[:k], e, again.Write, again.Inodes, again.Blocks, left.Write, left.Inodes, left.Blocks)
		}
		if k == len(r.Write) {
			break
		}
		now[r.Write[k]] = r.Want[r.Write[k]]
	}
	if !slices.Equal(now, r.Want) {
		t.Error("others differ than those of Write")
	}
}

// tells holds a look to what it must tell, and whatever hold holds.
func (d *draft) tells(what string, write, inodes, blocks []int) api.Report {
	d.Helper()
	r, e := look.Look(d.image)
	if e != api.OK || !slices.Equal(r.Write, write) || !slices.Equal(r.Inodes, inodes) || !slices.Equal(r.Blocks, blocks) {
		d.Fatalf("%s: %d, Write %v, Inodes %v, Blocks %v; want %v, %v, %v", what, e, r.Write, r.Inodes, r.Blocks, write, inodes, blocks)
	}
	return hold(d.T, d.image)
}

// refused holds a look to its refusal.
func (d *draft) refused(what string, want api.Errno) {
	d.Helper()
	if r, e := look.Look(d.image); e != want || r.Want != nil || r.Write != nil || r.Inodes != nil || r.Blocks != nil {
		d.Errorf("%s: %d, %v, %v, %v, %d sectors; want %d", what, e, r.Write, r.Inodes, r.Blocks, len(r.Want), want)
	}
	hold(d.T, d.image)
}

// inodeIs holds an inode of a Want.
func (d *draft) inodeIs(what string, r api.Report, i int, want api.Inode) {
	d.Helper()
	if x, e := layout.ReadInode(r.Want[i]); e != api.OK || x != want {
		d.Errorf("%s: inode %d is %+v, %d; want %+v", what, i, x, e, want)
	}
}

// tableIs holds a sector of pointers of a Want.
func (d *draft) tableIs(what string, r api.Report, n int, want api.Pointers) {
	d.Helper()
	if p := layout.ReadPointers(r.Want[n]); p != want {
		d.Errorf("%s: sector %d has the pointers %v; want %v", what, n, p, want)
	}
}

// mustLook is a look that is not refused, and the plain one.
func mustLook(t *testing.T, image []api.Sector) (api.Report, api.Report) {
	t.Helper()
	r, e := look.Look(image)
	want, wantError := plainLook(image)
	if e != api.OK || wantError != api.OK {
		t.Fatalf("Look: %d, want %d", e, wantError)
	}
	return r, want
}
