package file_test

import (
	"slices"
	"testing"

	"breakwater/api"
	"breakwater/layout"
)

func TestTruncateToWhatMayNotBe(t *testing.T) { // P10.7
	r := begin(t)
	r.write(2, 0, filled(300, 1)...)
	for _, size := range []int{minInt, -1, 136705, maxInt} {
		r.refused("Truncate", api.ErrFileRange, func() api.Errno { return r.f.Truncate(2, size) })
	}
}

func TestTruncateToItsSize(t *testing.T) { // P10.7: nothing, and nothing is written
	for _, size := range []int{0, 1, 127, 128, 1535, 1536, 5631, 5632, 136703, 136704} {
		r := begin(t)
		if size > 0 {
			r.write(2, size-1, 1)
		}
		r.refused("Truncate", api.OK, func() api.Errno { return r.f.Truncate(2, size) })
	}
}

func TestTruncateToMore(t *testing.T) { // P10.7
	for _, size := range []int{301, 384, 385, 1535, 1536, 5631, 5632, 136703, 136704} {
		r := synced(t)
		r.write(2, 0, filled(300, 1)...)
		r.sync()
		want := r.inode(2)
		want.Size = size
		writes := r.d.Writes()
		r.truncate(2, size)
		if x := r.inode(2); x != want || r.d.Writes() != writes {
			t.Errorf("Truncate(%d): %+v, %d writes", size, x, r.d.Writes()-writes)
		}
		r.dirty(2)
		r.edges()
		r.reads(2, 290, 131072, append(filled(300, 1)[290:], zeros(min(size-300, 131062))...))
		r.count(2, 3)
	}
}

func TestTruncateKeepsWhatTheInodeMustLandBehind(t *testing.T) { // P10.7: it is put behind nothing more
	r := synced(t)
	r.write(2, 0, 1)
	r.truncate(2, 500)
	r.edges(9, 2)
}

// indexes are those of blocks at the edges of tables.
func indexes() []int { return []int{0, 5, 11, 12, 20, 43, 44, 60, 75, 76, 77, 107, 108, 1036, 1067} }

// sparse is a file of those blocks alone, with nothing dirty: 15 blocks, and the tables of 12 on, of 44 on, of 76 on, of 108 on, of 1036 on, and the double one.
func sparse(t *testing.T) *rig {
	t.Helper()
	r := synced(t)
	for v, k := range indexes() {
		r.lay(2, 136704, block(k, byte(v+1)))
	}
	r.sync()
	r.count(2, 21)
	return r
}

// tablesOf tells how many tables a file has that has these blocks.
func tablesOf(list []int) int {
	var tables []int
	for _, k := range list {
		switch {
		case k >= 44:
			tables = append(tables, -1, (k-44)/32)
		case k >= 12:
			tables = append(tables, -2)
		}
	}
	slices.Sort(tables)
	return len(slices.Compact(tables))
}

func TestTruncateToEverySize(t *testing.T) { // P10.7, P10.13
	for k := range 1069 {
		if k > 130 && k < 1030 {
			continue
		}
		for _, size := range []int{128*k - 1, 128 * k, 128*k + 1} {
			if size < 0 || size > 136703 {
				continue
			}
			r := sparse(t)
			r.truncate(2, size)
			var left []int
			for _, index := range indexes() {
				if 128*index < size {
					left = append(left, index)
				}
			}
			if x := r.inode(2); x.Size != size {
				t.Errorf("Truncate(%d): %+v", size, x)
			}
			own := len(left) + tablesOf(left)
			r.count(2, own)
			r.dirty()
			if x := r.s.Room(); x != (api.Room{Blocks: 55 - own, Inodes: 6}) {
				t.Errorf("Truncate(%d): %+v", size, x)
			}
			r.truncate(2, 136704) // what was cut off is zeros, when it comes back
			for v, index := range indexes() {
				want := zeros(128)
				for at := range want {
					if 128*index+at < size {
						want[at] = byte(v + 1)
					}
				}
				r.reads(2, 128*index, 128, want)
			}
			if t.Failed() {
				t.Fatalf("size %d", size)
			}
		}
	}
}

// truncated is what a Truncate writes: sectors, in their order, and the tags that land with each.
type truncated struct {
	size   int
	writes []int
	tags   map[int][]int
}

// cutAnywhere lets the power go at each write of a Truncate of inode 2: what has landed then, of sectors and of tags, is what it should be.
func cutAnywhere(t *testing.T, lay func(t *testing.T) *rig, want truncated) {
	t.Helper()
	for left := range len(want.writes) {
		r := lay(t)
		before := r.d.Image()
		writes := r.d.Writes()
		r.d.Arm(left)
		r.is("Truncate", r.f.Truncate(2, want.size), api.ErrDiskDown)
		after := r.d.Image()
		var tags []int
		for n := range after {
			landed := slices.Contains(want.writes[:left], n)
			if landed != (after[n] != before[n]) {
				t.Errorf("to %d, %d writes: sector %d", want.size, left, n)
			}
			if landed {
				tags = append(tags, want.tags[n]...)
			}
		}
		slices.Sort(tags)
		r.landed(tags...)
		if r.d.Writes() != writes+left {
			t.Errorf("to %d: %d writes", want.size, r.d.Writes()-writes)
		}
		r.goodForNothing(after)
	}
	r := lay(t)
	writes := r.d.Writes()
	r.d.Arm(len(want.writes))
	r.is("Truncate", r.f.Truncate(2, want.size), api.OK)
	if r.d.Writes() != writes+len(want.writes) {
		t.Errorf("to %d: %d writes, want %d", want.size, r.d.Writes()-writes, len(want.writes))
	}
	r.landed() // all of them are settled
	if x := r.s.Room(); x.Later != 0 {
		t.Errorf("to %d: %+v", want.size, x)
	}
}

// tables is a file of the blocks 3 (sector 9), 4 (10), 12 (11, its table 12), 20 (13), 44 (14, its table 15, the double one 16), 45 (17), 76 (18, its table 19), 77 (20).
func tables(t *testing.T) *rig {
	t.Helper()
	r := synced(t)
	for _, k := range []int{3, 4, 12, 20, 44, 45, 76, 77} {
		r.lay(2, 136704, block(k, byte(k)))
	}
	r.sync()
	return r
}

func TestWhereEachIsMarked(t *testing.T) { // P10.7, P10.8
	for _, want := range []truncated{
		{128 * 78, []int{2}, nil},                                                                 // nothing goes
		{128*77 + 5, []int{20, 2}, nil},                                                           // within 77, which is wiped
		{128 * 77, []int{19, 2}, map[int][]int{19: {20}}},                                         // 77, of a table that stays
		{128*76 + 1, []int{18, 19, 2}, map[int][]int{19: {20}}},                                   // within 76
		{128 * 76, []int{16, 2}, map[int][]int{16: {18, 19, 20}}},                                 // and 76: the table goes, at the double one
		{128 * 50, []int{16, 2}, map[int][]int{16: {18, 19, 20}}},                                 // in a hole
		{128*50 + 3, []int{16, 2}, map[int][]int{16: {18, 19, 20}}},                               // within a hole
		{128 * 45, []int{15, 16, 2}, map[int][]int{15: {17}, 16: {18, 19, 20}}},                   // one table stays, one goes
		{128*44 + 127, []int{14, 15, 16, 2}, map[int][]int{15: {17}, 16: {18, 19, 20}}},           // within 44
		{128 * 44, []int{2}, map[int][]int{2: {14, 15, 16, 17, 18, 19, 20}}},                      // the double one goes
		{128 * 21, []int{2}, map[int][]int{2: {14, 15, 16, 17, 18, 19, 20}}},                      // and no more
		{128 * 20, []int{12, 2}, map[int][]int{12: {13}, 2: {14, 15, 16, 17, 18, 19, 20}}},        // 20, of the single one
		{128*12 + 9, []int{11, 12, 2}, map[int][]int{12: {13}, 2: {14, 15, 16, 17, 18, 19, 20}}},  // within 12
		{128 * 12, []int{2}, map[int][]int{2: {11, 12, 13, 14, 15, 16, 17, 18, 19, 20}}},          // the single one goes
		{128 * 4, []int{2}, map[int][]int{2: {10, 11, 12, 13, 14, 15, 16, 17, 18, 19, 20}}},       // 4
		{128*3 + 64, []int{9, 2}, map[int][]int{2: {10, 11, 12, 13, 14, 15, 16, 17, 18, 19, 20}}}, // within 3
		{128*3 - 64, []int{2}, map[int][]int{2: {9, 10, 11, 12, 13, 14, 15, 16, 17, 18, 19, 20}}}, // within a hole
		{0, []int{2}, map[int][]int{2: {9, 10, 11, 12, 13, 14, 15, 16, 17, 18, 19, 20}}},          // all
	} {
		cutAnywhere(t, tables, want)
	}
}

func TestWhatIsDirtyWhenItIsCutOff(t *testing.T) { // P10.7: what is given up is dropped, and waited for no more
	dirty := func(t *testing.T) *rig {
		t.Helper()
		r := synced(t)
		r.is("cache.Put", r.c.Put(60, full(60)), api.OK)
		r.lay(2, 136704, block(0, 1), block(1, 2, 60), block(12, 3, 60), block(13, 4), block(44, 5), block(76, 6))
		// 9; 10; 11, its table 12; 13; 14, its table 15, the double one 16; 17, its table 18
		r.edges(9, 2, 10, 2, 11, 12, 12, 2, 13, 12, 14, 15, 15, 16, 16, 2, 17, 18, 18, 16, 60, 10, 60, 11)
		return r
	}
	cutAnywhere(t, dirty, truncated{128 * 50, []int{9, 60, 10, 11, 13, 12, 14, 15, 16, 2}, map[int][]int{16: {17, 18}}})
	cutAnywhere(t, dirty, truncated{128 * 13, []int{9, 60, 10, 11, 12, 2}, map[int][]int{12: {13}, 2: {14, 15, 16, 17, 18}}})
	cutAnywhere(t, dirty, truncated{128, []int{9, 2}, map[int][]int{2: {10, 11, 12, 13, 14, 15, 16, 17, 18}}})
	cutAnywhere(t, dirty, truncated{0, []int{2}, map[int][]int{2: {9, 10, 11, 12, 13, 14, 15, 16, 17, 18}}})
	r := dirty(t)
	r.truncate(2, 128)
	r.dirty(60)
}

// putTable lays a table by hand.
func (r *rig) putTable(n int, pointers ...int) {
	r.Helper()
	var p api.Pointers
	copy(p[:], pointers)
	s, e := layout.PointersSector(p)
	r.is("PointersSector", e, api.OK)
	r.is("cache.Put", r.c.Put(n, s), api.OK)
}

// empties are tables that have no pointer: the single one (20), and of those to which the double one (21) leads the first (22); the second (23) has one, to 24. All are in use.
func empties(t *testing.T) *rig {
	t.Helper()
	r := synced(t)
	for range 16 {
		r.s.TakeBlock()
	}
	r.putTable(20)
	r.putTable(21, 22, 23)
	r.putTable(22)
	r.putTable(23, 24)
	r.is("cache.Put", r.c.Put(24, full(24)), api.OK)
	r.is("Put", r.f.Put(2, api.Inode{Kind: api.KindFile, Size: 136704, Single: 20, Double: 21}), api.OK)
	r.sync()
	return r
}

func TestTablesThatHadNoPointer(t *testing.T) { // P10.7: they are given up, too
	cutAnywhere(t, empties, truncated{136703, []int{21, 2}, map[int][]int{21: {22}, 2: {20}}})
	cutAnywhere(t, empties, truncated{128 * 76, []int{2}, map[int][]int{2: {20, 21, 22, 23, 24}}})
	none := func(t *testing.T) *rig {
		t.Helper()
		r := empties(t)
		r.putTable(21)
		r.sync()
		return r
	}
	cutAnywhere(t, none, truncated{136703, []int{2}, map[int][]int{2: {20, 21}}})
}

func TestWhatIsNotSettledYet(t *testing.T) { // P10.7: Settle tells all that has landed, other files' too
	r := begin(t)
	other := r.make(api.KindFile)
	r.write(other, 0, filled(300, 1)...)
	r.write(2, 0, filled(300, 2)...)
	r.sync()
	r.is("Free", r.f.Free(other), api.OK)
	r.flush(other)
	r.truncate(2, 129)
	if x := r.s.Room(); x != (api.Room{Blocks: 53, Inodes: 6}) {
		t.Errorf("Room: %+v", x)
	}
}

func TestWhatIsLaidBehindTheEnd(t *testing.T) { // P10.7: every block that begins at size or behind it
	r := synced(t)
	r.lay(2, 100, block(0, 1), block(3, 2), block(12, 3))
	r.truncate(2, 50)
	r.count(2, 1)
	if x := r.inode(2); x.Size != 50 || x.Direct != [12]int{9} || x.Single != 0 {
		t.Errorf("Inode: %+v", x)
	}
}

func TestOtherFilesAreLeftAlone(t *testing.T) { // P10.7, P10.8
	r := synced(t)
	other := r.make(api.KindFile)
	r.write(other, 0, filled(2000, 4)...)
	r.write(2, 0, filled(2000, 5)...)
	own := r.c.Dirty()
	r.truncate(2, 1)
	left := r.c.Dirty()
	if slices.Contains(left, 2) || !slices.Contains(left, other) || len(left) >= len(own) {
		t.Errorf("Dirty: %v, ahead of it %v", left, own)
	}
	r.reads(other, 0, 9999, filled(2000, 4))
	r.count(other, 17)
	r.reads(2, 0, 9, filled(1, 5))
}

func TestSectorsAreGivenAgain(t *testing.T) { // P10.7: they are free at once
	r := rigOf(t, 8, 2) // 5 data sectors
	i := r.make(api.KindFile)
	for n := range 9 {
		r.write(i, 0, filled(640, n)...)
		r.reads(i, 0, 999, filled(640, n))
		r.truncate(i, 128*(n%5))
		r.room(5-n%5, 0, 0)
	}
}
