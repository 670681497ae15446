package blocks_test

import (
	"math"
	"slices"
	"testing"

	"breakwater/api"
	"breakwater/blocks"
	"breakwater/cache"
	"breakwater/disk"
	"breakwater/layout"
)

// example is the chapter's.
func example() (*teller, api.Inode) {
	r := &teller{tables: map[int]api.Pointers{30: {1: 22}, 40: {0: 41, 31: 42}, 41: {0: 23, 31: 24}}}
	return r, api.Inode{Kind: api.KindFile, Direct: [12]int{0: 20, 11: 21}, Single: 30, Double: 40}
}

// full is one of which every block is there, each at a sector of its own.
func full() (*teller, api.Inode) {
	r := &teller{tables: map[int]api.Pointers{}}
	x := api.Inode{Kind: api.KindFile, Size: api.MaxFile, Single: 2000, Double: 2001}
	for i := range x.Direct {
		x.Direct[i] = 3000 + i
	}
	var single, double api.Pointers
	for i := range single {
		single[i], double[i] = 3012+i, 2100+i
		var inner api.Pointers
		for j := range inner {
			inner[j] = 3044 + 32*i + j
		}
		r.tables[2100+i] = inner
	}
	r.tables[2000], r.tables[2001] = single, double
	return r, x
}

// noIndexes are numbers that are no block's index.
func noIndexes() []int {
	return []int{-1, -2, -12, -44, -1068, 1068, 1069, 1100, 2136, 1 << 31, 1 << 32, 1<<32 + 5, math.MaxInt, math.MaxInt - 1, math.MinInt, math.MinInt + 1, math.MinInt + 44}
}

// edges are indexes at which the way becomes another, and some beside them.
func edges() []int {
	return []int{0, 1, 10, 11, 12, 13, 42, 43, 44, 45, 74, 75, 76, 77, 107, 108, 1035, 1036, 1066, 1067}
}

func all() []int {
	var list []int
	for i := range 1068 {
		list = append(list, i)
	}
	return list
}

// holdFind holds an answer, and what the reader was asked for it, to the plain one; so do the others below.
func holdFind(t *testing.T, r *teller, x api.Inode, index int) {
	t.Helper()
	r.asked = nil
	want, asked, wantError := plain{r, x}.find(index)
	if n, e := blocks.Find(r, x, index); n != want || e != wantError {
		t.Errorf("Find(%d) of %+v: %d, %d, want %d, %d", index, x, n, e, want, wantError)
	}
	if !slices.Equal(r.asked, asked) {
		t.Errorf("Find(%d) of %+v asked for %v, want %v", index, x, r.asked, asked)
	}
}

func holdSpots(t *testing.T, r *teller, x api.Inode) {
	t.Helper()
	r.asked = nil
	want, asked, wantError := plain{r, x}.spots()
	if l, e := blocks.Spots(r, x); !slices.Equal(l, want) || e != wantError {
		t.Errorf("Spots of %+v: %v, %d, want %v, %d", x, l, e, want, wantError)
	}
	if !slices.Equal(r.asked, asked) {
		t.Errorf("Spots of %+v asked for %v, want %v", x, r.asked, asked)
	}
}

func holdTables(t *testing.T, r *teller, x api.Inode) {
	t.Helper()
	r.asked = nil
	want, asked, wantError := plain{r, x}.sectorsOfTables()
	if l, e := blocks.Tables(r, x); !slices.Equal(l, want) || e != wantError {
		t.Errorf("Tables of %+v: %v, %d, want %v, %d", x, l, e, want, wantError)
	}
	if !slices.Equal(r.asked, asked) {
		t.Errorf("Tables of %+v asked for %v, want %v", x, r.asked, asked)
	}
}

func holdNeed(t *testing.T, r *teller, x api.Inode, index ...int) {
	t.Helper()
	r.asked = nil
	want, asked, wantError := plain{r, x}.need(index)
	if n, e := blocks.Need(r, x, index...); n != want || e != wantError {
		t.Errorf("Need(%v) of %+v: %d, %d, want %d, %d", index, x, n, e, want, wantError)
	}
	if !slices.Equal(r.asked, asked) {
		t.Errorf("Need(%v) of %+v asked for %v, want %v", index, x, r.asked, asked)
	}
}

// hold holds whatever may be asked of an inode.
func hold(t *testing.T, r *teller, x api.Inode) {
	t.Helper()
	for index := -1; index <= 1068; index++ {
		holdFind(t, r, x, index)
		holdNeed(t, r, x, index)
	}
	holdSpots(t, r, x)
	holdTables(t, r, x)
	holdNeed(t, r, x)
	holdNeed(t, r, x, edges()...)
	holdNeed(t, r, x, all()...)
}

func need(t *testing.T, r blocks.Reader, x api.Inode, want int, wantError api.Errno, index ...int) {
	t.Helper()
	if n, e := blocks.Need(r, x, index...); n != want || e != wantError {
		t.Errorf("Need(%v): %d, %d, want %d, %d", index, n, e, want, wantError)
	}
}

func find(t *testing.T, r blocks.Reader, x api.Inode, index, want int, wantError api.Errno) {
	t.Helper()
	if n, e := blocks.Find(r, x, index); n != want || e != wantError {
		t.Errorf("Find(%d): %d, %d, want %d, %d", index, n, e, want, wantError)
	}
}

func spots(t *testing.T, r blocks.Reader, x api.Inode, wantError api.Errno, want ...api.Spot) {
	t.Helper()
	if l, e := blocks.Spots(r, x); !slices.Equal(l, want) || e != wantError {
		t.Errorf("Spots: %v, %d, want %v, %d", l, e, want, wantError)
	}
}

func tables(t *testing.T, r blocks.Reader, x api.Inode, wantError api.Errno, want ...int) {
	t.Helper()
	if l, e := blocks.Tables(r, x); !slices.Equal(l, want) || e != wantError {
		t.Errorf("Tables: %v, %d, want %v, %d", l, e, want, wantError)
	}
}

// asks holds what a reader was asked since it was last held.
func asks(t *testing.T, r *teller, want ...int) {
	t.Helper()
	if !slices.Equal(r.asked, want) {
		t.Errorf("the reader was asked for %v, want %v", r.asked, want)
	}
	r.asked = nil
}

func TestWayByTheExamples(t *testing.T) { // P9.1
	for index, want := range map[int][3]int{0: {0, 0, 0}, 11: {0, 11, 0}, 12: {1, 0, 0}, 43: {1, 31, 0}, 44: {2, 0, 0}, 75: {2, 0, 31}, 76: {2, 1, 0}, 1036: {2, 31, 0}, 1067: {2, 31, 31}} {
		if a, b, c, e := blocks.Way(index); [3]int{a, b, c} != want || e != api.OK {
			t.Errorf("Way(%d): %d, %d, %d, %d, want %v", index, a, b, c, e, want)
		}
	}
}

func TestWayOfNoIndex(t *testing.T) { // P9.1, R2
	for _, index := range noIndexes() {
		if a, b, c, e := blocks.Way(index); a != 0 || b != 0 || c != 0 || e != api.ErrBlocksIndex {
			t.Errorf("Way(%d): %d, %d, %d, %d", index, a, b, c, e)
		}
	}
}

func TestWaysOneBehindTheOther(t *testing.T) { // P9.1, P9.7: all of them, counted up
	want := [3]int{0, 0, 0}
	ends := [3][2]int{{12, 1}, {32, 1}, {32, 32}}
	index := 0
	for want[0] < 3 {
		if a, b, c, e := blocks.Way(index); [3]int{a, b, c} != want || e != api.OK {
			t.Errorf("Way(%d): %d, %d, %d, %d, want %v", index, a, b, c, e, want)
		}
		index++
		want[2]++
		if want[2] == ends[want[0]][1] {
			want[1], want[2] = want[1]+1, 0
		}
		if want[1] == ends[want[0]][0] {
			want[0], want[1] = want[0]+1, 0
		}
	}
	if index != 1068 {
		t.Errorf("%d places", index)
	}
}

func TestTheExamples(t *testing.T) { // P9.2 to P9.5
	r, x := example()
	for index, want := range map[int]int{0: 20, 1: 0, 11: 21, 12: 0, 13: 22, 44: 23, 75: 24, 76: 0, 1067: 0} {
		find(t, r, x, index, want, api.OK)
	}
	spots(t, r, x, api.OK, api.Spot{Index: 0, Sector: 20}, api.Spot{Index: 11, Sector: 21}, api.Spot{Index: 13, Sector: 22}, api.Spot{Index: 44, Sector: 23}, api.Spot{Index: 75, Sector: 24})
	tables(t, r, x, api.OK, 30, 40, 41, 42)
	need(t, r, x, 0, api.OK, 0, 13, 44)
	need(t, r, x, 2, api.OK, 1, 1, 12)
	need(t, r, x, 2, api.OK, 76)
	need(t, r, x, 5, api.OK, 76, 107, 108)
	need(t, r, x, 1, api.OK, 1036)
	var none api.Inode
	need(t, r, none, 2, api.OK, 12)
	need(t, r, none, 3, api.OK, 44)
	need(t, r, none, 6, api.OK, 0, 12, 44)
	need(t, r, none, 1102, api.OK, all()...)
}

func TestTheExamplesThatAreRefused(t *testing.T) { // P9.2 to P9.5
	r, x := example()
	find(t, r, x, 1068, 0, api.ErrBlocksIndex)
	need(t, r, x, 0, api.ErrBlocksIndex, 0, -1)
	find(t, nil, x, -1, 0, api.ErrArg)
	r.refused = map[int]api.Errno{41: api.ErrDiskDown}
	find(t, r, x, 44, 0, api.ErrDiskDown)
	find(t, r, x, 13, 22, api.OK)
	spots(t, r, x, api.ErrDiskDown)
	tables(t, r, x, api.OK, 30, 40, 41, 42)
	need(t, r, x, 0, api.ErrDiskDown, 13, 44)
}

func TestANilReaderAheadOfAllElse(t *testing.T) { // P9.2 to P9.5, R1
	_, x := example()
	for _, x := range []api.Inode{x, {}} {
		for _, index := range slices.Concat(edges(), noIndexes()) {
			find(t, nil, x, index, 0, api.ErrArg)
			need(t, nil, x, 0, api.ErrArg, index)
			need(t, nil, x, 0, api.ErrArg, 0, index)
		}
		need(t, nil, x, 0, api.ErrArg)
		spots(t, nil, x, api.ErrArg)
		tables(t, nil, x, api.ErrArg)
	}
}

func TestNoIndexAheadOfTheReader(t *testing.T) { // P9.2, P9.5: nobody is asked then
	r, x := example()
	r.refused = map[int]api.Errno{30: api.ErrDiskDown, 40: api.ErrDiskDown, 41: api.ErrDiskDown}
	for _, index := range noIndexes() {
		find(t, r, x, index, 0, api.ErrBlocksIndex)
		need(t, r, x, 0, api.ErrBlocksIndex, index)
		need(t, r, x, 0, api.ErrBlocksIndex, 12, 44, index)
		need(t, r, x, 0, api.ErrBlocksIndex, index, 0, 1)
		need(t, r, x, 0, api.ErrBlocksIndex, 44, index, 44)
	}
	asks(t, r)
}

func TestWhatTheReaderIsAsked(t *testing.T) { // P9.2 to P9.5
	r, x := example()
	for index, want := range map[int][]int{0: nil, 5: nil, 11: nil, 12: {30}, 43: {30}, 44: {40, 41}, 75: {40, 41}, 76: {40}, 1035: {40}, 1036: {40, 42}, 1067: {40, 42}} {
		find(t, r, x, index, map[int]int{0: 20, 11: 21, 44: 23, 75: 24}[index], api.OK)
		asks(t, r, want...)
	}
	blocks.Spots(r, x)
	asks(t, r, 30, 40, 41, 42)
	blocks.Tables(r, x)
	asks(t, r, 40)
	blocks.Need(r, x, 13, 44, 13, 76, 0, 45, 44)
	asks(t, r, 30, 40, 41, 30, 40, 40, 41, 40, 41)
	blocks.Need(r, x)
	asks(t, r)
}

func TestAnInodeWithoutPointers(t *testing.T) { // P9.2 to P9.5: nobody is asked
	r, _ := example()
	for _, index := range edges() {
		find(t, r, api.Inode{}, index, 0, api.OK)
	}
	spots(t, r, api.Inode{}, api.OK)
	tables(t, r, api.Inode{}, api.OK)
	need(t, r, api.Inode{}, 0, api.OK)
	need(t, r, api.Inode{}, 1, api.OK, 11)
	need(t, r, api.Inode{}, 1102, api.OK, all()...)
	asks(t, r)
	hold(t, r, api.Inode{})
}

func TestOneTableAlone(t *testing.T) { // P9.2 to P9.5
	r, x := example()
	single, double := api.Inode{Single: 30}, api.Inode{Double: 40}
	hold(t, r, single)
	hold(t, r, double)
	r.asked = nil
	spots(t, r, single, api.OK, api.Spot{Index: 13, Sector: 22})
	asks(t, r, 30)
	tables(t, r, single, api.OK, 30)
	asks(t, r)
	need(t, r, single, 1, api.OK, 12)
	need(t, r, single, 3, api.OK, 44)
	spots(t, r, double, api.OK, api.Spot{Index: 44, Sector: 23}, api.Spot{Index: 75, Sector: 24})
	tables(t, r, double, api.OK, 40, 41, 42)
	need(t, r, double, 2, api.OK, 12)
	need(t, r, double, 1, api.OK, 45)
	need(t, r, double, 2, api.OK, 76)
	hold(t, r, api.Inode{Direct: x.Direct})
}

func TestADoubleTableThatLeadsToNone(t *testing.T) { // P9.2 to P9.5
	r := &teller{}
	x := api.Inode{Double: 40}
	spots(t, r, x, api.OK)
	asks(t, r, 40)
	tables(t, r, x, api.OK, 40)
	need(t, r, x, 2, api.OK, 44)
	need(t, r, x, 3, api.OK, 44, 75)
	need(t, r, x, 4, api.OK, 75, 76)
	need(t, r, x, 1101, api.OK, all()...)
	hold(t, r, x)
}

func TestADoubleTableThatLeadsToAll(t *testing.T) { // P9.2 to P9.5
	r, x := full()
	for _, index := range all() {
		find(t, r, x, index, 3000+index, api.OK)
	}
	l, e := blocks.Spots(r, x)
	if len(l) != 1068 || e != api.OK {
		t.Errorf("Spots: %d, %d", len(l), e)
	}
	want := []int{2000, 2001}
	for i := range 32 {
		want = append(want, 2100+i)
	}
	tables(t, r, x, api.OK, want...)
	need(t, r, x, 0, api.OK, all()...)
	hold(t, r, x)
	x.Double = 2002 // a table of zeros is there
	need(t, r, x, 1024+32, api.OK, all()...)
	hold(t, r, x)
}

func TestPointersThatAreTheSame(t *testing.T) { // P9.2 to P9.5: each counts as it stands
	r := &teller{tables: map[int]api.Pointers{30: {0: 30, 2: 7, 3: 7, 31: 30}}}
	x := api.Inode{Direct: [12]int{3: 7, 4: 7, 5: 30}, Single: 30, Double: 30}
	hold(t, r, x)
	r.asked = nil
	tables(t, r, x, api.OK, 30, 30, 30, 7, 7, 30)
	asks(t, r, 30)
	l, e := blocks.Spots(r, x)
	if len(l) != 3+4+4+4 || e != api.OK {
		t.Errorf("Spots: %v, %d", l, e)
	}
	asks(t, r, 30, 30, 30, 7, 7, 30)
	need(t, r, x, 2, api.OK, 45, 1037) // two indexes, whose pointers stand at one place of one sector
	need(t, r, x, 0, api.OK, 44, 1036)
}

func TestPointersAreTakenAsTheyStand(t *testing.T) { // P9.2 to P9.5, R1: also such as no disk has
	for _, n := range []int{-1, 1<<32 - 1, 1 << 40, math.MaxInt, math.MinInt} {
		r := &teller{tables: map[int]api.Pointers{}, refused: map[int]api.Errno{}}
		x := api.Inode{Direct: [12]int{5: n}, Single: n, Double: n}
		find(t, r, x, 5, n, api.OK)
		need(t, r, x, 0, api.OK, 5)
		tables(t, r, x, api.OK, n, n)
		spots(t, r, x, api.OK, api.Spot{Index: 5, Sector: n})
		asks(t, r, n, n, n)
		r.tables[n] = api.Pointers{0: 1<<32 - 1, 31: 9}
		hold(t, r, x)
		r.refused[n] = api.ErrDiskPlace
		hold(t, r, x)
	}
}

func TestNothingElseOfTheInodeIsLookedAt(t *testing.T) { // P9.2 to P9.5
	r, x := example()
	for _, y := range []api.Inode{{}, {Kind: 1}, {Kind: 2, Links: 100, Size: 128, Made: 1 << 40}, {Kind: -1, Links: -1, Size: -1, Made: -1}, {Kind: 9, Links: 101, Size: math.MaxInt, Made: math.MinInt}} {
		y.Direct, y.Single, y.Double = x.Direct, x.Single, x.Double
		hold(t, r, y)
		spots(t, r, y, api.OK, api.Spot{Index: 0, Sector: 20}, api.Spot{Index: 11, Sector: 21}, api.Spot{Index: 13, Sector: 22}, api.Spot{Index: 44, Sector: 23}, api.Spot{Index: 75, Sector: 24})
	}
}

func TestEachTableRefusedInTurn(t *testing.T) { // P9.2 to P9.5
	for _, code := range []api.Errno{api.ErrArg, api.ErrDiskPlace, api.ErrDiskDown, api.ErrCachePlace, api.ErrBlocksIndex, -1, 12345} {
		for _, n := range []int{30, 40, 41, 42, 20, 22, 23} {
			r, x := example()
			r.refused = map[int]api.Errno{n: code}
			hold(t, r, x)
		}
	}
	r, x := full()
	for i := range 32 {
		r.refused = map[int]api.Errno{2100 + i: api.ErrDiskDown}
		holdSpots(t, r, x)
		holdTables(t, r, x)
		holdNeed(t, r, x, 1067, 44+32*i, 12, 0)
		find(t, r, x, 44+32*i+31, 0, api.ErrDiskDown)
	}
}

func TestTheFirstErrorGoesUp(t *testing.T) { // P9.2 to P9.5: in the order in which the reader is asked
	r, x := example()
	r.refused = map[int]api.Errno{30: 1030, 40: 1040, 41: 1041, 42: 1042}
	spots(t, r, x, 1030)
	asks(t, r, 30)
	tables(t, r, x, 1040)
	asks(t, r, 40)
	need(t, r, x, 0, 1030, 0, 12, 44)
	asks(t, r, 30)
	need(t, r, x, 0, 1040, 0, 44, 12)
	asks(t, r, 40)
	delete(r.refused, 30)
	spots(t, r, x, 1040)
	asks(t, r, 30, 40)
	delete(r.refused, 40)
	spots(t, r, x, 1041)
	asks(t, r, 30, 40, 41)
	need(t, r, x, 0, 1042, 12, 1036, 44)
	asks(t, r, 30, 40, 42)
	delete(r.refused, 41)
	spots(t, r, x, 1042)
	asks(t, r, 30, 40, 41, 42)
	find(t, r, x, 44, 23, api.OK)
	find(t, r, x, 1067, 0, 1042)
}

func TestNeedAtItsEdges(t *testing.T) { // P9.5
	r, x := example()
	need(t, r, x, 0, api.OK)
	need(t, r, x, 0, api.OK, 13)
	need(t, r, x, 0, api.OK, 75, 75, 0, 75)
	need(t, r, x, 1, api.OK, 12, 12, 12)
	need(t, r, x, 2, api.OK, 1035, 1035)
	need(t, r, x, 4, api.OK, 76, 77, 107)
	need(t, r, x, 4, api.OK, 107, 76, 107, 77, 76)
	need(t, r, x, 1102-5-4, api.OK, all()...)
	var none api.Inode
	need(t, r, none, 4, api.OK, 44, 45)
	need(t, r, none, 5, api.OK, 44, 76)
	need(t, r, none, 33, api.OK, all()[12:44]...)
	need(t, r, none, 1024+33, api.OK, all()[44:]...)
	backwards := all()
	slices.Reverse(backwards)
	need(t, r, none, 1102, api.OK, backwards...)
	need(t, r, x, 1102-5-4, api.OK, slices.Concat(backwards, all())...)
}

func TestIndexesAreNeitherChangedNorKept(t *testing.T) { // P9.6
	r, x := example()
	list := []int{108, 76, 12, 107, 76, 0}
	room := append(slices.Clone(list), 77, 78)
	need(t, r, x, 6, api.OK, room[:6]...)
	if !slices.Equal(room, append(slices.Clone(list), 77, 78)) {
		t.Errorf("the list is %v", room)
	}
	clear(room)
	need(t, r, x, 6, api.OK, list...)
	need(t, r, x, 0, api.ErrBlocksIndex, append(room[:0], 5, -7)...)
	if room[0] != 5 || room[1] != -7 {
		t.Errorf("the list is %v", room)
	}
	need(t, r, x, 1, api.OK, 5)
}

func TestListsThatComeOutAreNew(t *testing.T) { // P9.6, R4
	for _, make := range []func() (*teller, api.Inode){example, full} {
		r, x := make()
		before := x
		firstSpots, _ := blocks.Spots(r, x)
		firstTables, _ := blocks.Tables(r, x)
		clear(firstSpots[:cap(firstSpots)])
		clear(firstTables[:cap(firstTables)])
		holdSpots(t, r, x)
		holdTables(t, r, x)
		secondSpots, _ := blocks.Spots(r, x)
		secondTables, _ := blocks.Tables(r, x)
		keptSpots, keptTables := slices.Clone(secondSpots), slices.Clone(secondTables)
		thirdSpots, _ := blocks.Spots(r, x)
		thirdTables, _ := blocks.Tables(r, x)
		clear(thirdSpots[:cap(thirdSpots)])
		clear(thirdTables[:cap(thirdTables)])
		if !slices.Equal(secondSpots, keptSpots) || !slices.Equal(secondTables, keptTables) || x != before {
			t.Errorf("a list that came out ahead was written over: %v, %v", secondSpots, secondTables)
		}
	}
}

// gone is a reader that panics.
type gone struct{ what any }

func (g gone) Read(int) (api.Sector, api.Errno) { panic(g.what) }

func TestAReaderThatPanics(t *testing.T) { // R1: no call does
	_, x := example()
	var noDisk *disk.Disk
	for _, r := range []blocks.Reader{gone{"no"}, gone{nil}, gone{api.ErrDiskDown}, noDisk} {
		find(t, r, x, 11, 21, api.OK)
		find(t, r, x, 12, 0, api.ErrArg)
		find(t, r, x, 44, 0, api.ErrArg)
		spots(t, r, x, api.ErrArg)
		tables(t, r, x, api.ErrArg)
		need(t, r, x, 0, api.ErrArg, 0, 13)
		need(t, r, x, 0, api.ErrBlocksIndex, 13, -1)
	}
}

func TestDisksAndCachesTellSectors(t *testing.T) { // P9.2 to P9.5: their errors go up with their own numbers
	d, _ := disk.New(50)
	c, _ := cache.New(d)
	r, x := example()
	for _, n := range []int{30, 40, 41} {
		s, _ := layout.PointersSector(r.tables[n])
		if e := c.Put(n, s); e != api.OK {
			t.Fatalf("Put(%d): %d", n, e)
		}
	}
	find(t, c, x, 75, 24, api.OK)
	find(t, d, x, 75, 0, api.OK) // not landed yet
	if e := c.Sync(); e != api.OK {
		t.Fatalf("Sync: %d", e)
	}
	for _, r := range []blocks.Reader{c, d} {
		find(t, r, x, 75, 24, api.OK)
		tables(t, r, x, api.OK, 30, 40, 41, 42)
		need(t, r, x, 5, api.OK, 76, 107, 108)
	}
	x.Single = 50
	spots(t, d, x, api.ErrDiskPlace)
	spots(t, c, x, api.ErrCachePlace)
	d.Arm(0)
	d.Write(0, api.Sector{})
	spots(t, d, x, api.ErrDiskDown)
	tables(t, d, x, api.ErrDiskDown)
}
