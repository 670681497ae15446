package space_test

import (
	"math"
	"slices"
	"testing"

	"breakwater/api"
	"breakwater/space"
)

// small has the inodes 1 to 3, and the data sectors 4 to 11.
func small() api.Super { return api.Super{Sectors: 12, Inodes: 3} }

// supers are some that may be: the least and the greatest ones, and some between.
func supers() []api.Super {
	return []api.Super{{Sectors: 8, Inodes: 1}, {Sectors: 8, Inodes: 5}, {Sectors: 8, Inodes: 6}, small(), {Sectors: 40, Inodes: 8}, {Sectors: 70, Inodes: 63},
		{Sectors: 514, Inodes: 512}, {Sectors: 4096, Inodes: 1}, {Sectors: 4096, Inodes: 512}}
}

// wrongSupers are some that may not be.
func wrongSupers() []api.Super {
	return []api.Super{{}, {Sectors: 7, Inodes: 1}, {Sectors: 7, Inodes: 3}, {Sectors: 7, Inodes: 5}, {Sectors: 4097, Inodes: 1}, {Sectors: 4097, Inodes: 512}, {Sectors: 0, Inodes: 1},
		{Sectors: -1, Inodes: 1}, {Sectors: -8, Inodes: 3}, {Sectors: math.MinInt, Inodes: 1}, {Sectors: math.MaxInt, Inodes: 1}, {Sectors: 1<<32 + 8, Inodes: 1},
		{Sectors: 8, Inodes: 0}, {Sectors: 4096, Inodes: 0}, {Sectors: 4096, Inodes: 513}, {Sectors: 4096, Inodes: 4094}, {Sectors: 4096, Inodes: -1}, {Sectors: 12, Inodes: -3},
		{Sectors: 8, Inodes: 7}, {Sectors: 8, Inodes: 8}, {Sectors: 8, Inodes: 9}, {Sectors: 12, Inodes: 11}, {Sectors: 12, Inodes: 12}, {Sectors: 513, Inodes: 512}, {Sectors: 512, Inodes: 512}, {Sectors: 100, Inodes: 512},
		{Sectors: 12, Inodes: math.MaxInt}, {Sectors: 12, Inodes: math.MaxInt - 1}, {Sectors: 12, Inodes: math.MinInt}, {Sectors: 12, Inodes: 1<<32 + 3}}
}

// noInodes are numbers that are no inode of a super.
func noInodes(x api.Super) []int {
	return []int{0, -1, -2, -64, x.Inodes + 1, x.Inodes + 2, x.Sectors - 1, x.Sectors, 4096, 1<<32 + 1, math.MaxInt, math.MinInt, math.MinInt + 1}
}

// noBlocks are numbers that are no data sector of a super.
func noBlocks(x api.Super) []int {
	return []int{0, 1, -1, -x.Inodes - 1, x.Inodes, x.Sectors, x.Sectors + 1, x.Sectors + 64, 4096, 1<<32 + x.Sectors - 1, math.MaxInt, math.MinInt, math.MinInt + x.Sectors - 1}
}

// rising are the numbers from one to another.
func rising(from, to int) []int {
	var list []int
	for i := from; i <= to; i++ {
		list = append(list, i)
	}
	return list
}

func begin(t *testing.T, x api.Super, inodes, blocks []int) *space.Space {
	t.Helper()
	s, e := space.New(x, inodes, blocks)
	if s == nil || e != api.OK {
		t.Fatalf("New(%v, %v, %v): %d", x, inodes, blocks, e)
	}
	return s
}

func noSpace(t *testing.T, x api.Super, inodes, blocks []int, want api.Errno) {
	t.Helper()
	if s, e := space.New(x, inodes, blocks); s != nil || e != want {
		t.Errorf("New(%v, %v, %v): %v, %d, want %d", x, inodes, blocks, s, e, want)
	}
}

func room(t *testing.T, s *space.Space, blocks, later, inodes int) {
	t.Helper()
	if r := s.Room(); r != (api.Room{Blocks: blocks, Later: later, Inodes: inodes}) {
		t.Errorf("Room: %+v, want %d, %d, %d", r, blocks, later, inodes)
	}
}

// takeBlocks takes these, one behind the other.
func takeBlocks(t *testing.T, s *space.Space, want ...int) {
	t.Helper()
	for _, w := range want {
		if b, e := s.TakeBlock(); b != w || e != api.OK {
			t.Errorf("TakeBlock: %d, %d, want %d", b, e, w)
		}
	}
}

func noBlock(t *testing.T, s *space.Space) {
	t.Helper()
	if b, e := s.TakeBlock(); b != 0 || e != api.ErrSpaceBlocks {
		t.Errorf("TakeBlock: %d, %d, want none", b, e)
	}
}

// takeInodes takes these, one behind the other.
func takeInodes(t *testing.T, s *space.Space, want ...int) {
	t.Helper()
	for _, w := range want {
		if i, e := s.TakeInode(); i != w || e != api.OK {
			t.Errorf("TakeInode: %d, %d, want %d", i, e, w)
		}
	}
}

func noInode(t *testing.T, s *space.Space) {
	t.Helper()
	if i, e := s.TakeInode(); i != 0 || e != api.ErrSpaceInodes {
		t.Errorf("TakeInode: %d, %d, want none", i, e)
	}
}

func freeInode(t *testing.T, s *space.Space, i int, want api.Errno) {
	t.Helper()
	if e := s.FreeInode(i); e != want {
		t.Errorf("FreeInode(%d): %d, want %d", i, e, want)
	}
}

func later(t *testing.T, s *space.Space, b int, want api.Errno) {
	t.Helper()
	if e := s.Later(b); e != want {
		t.Errorf("Later(%d): %d, want %d", b, e, want)
	}
}

func landed(t *testing.T, s *space.Space, want api.Errno, blocks ...int) {
	t.Helper()
	if e := s.Landed(blocks...); e != want {
		t.Errorf("Landed(%v): %d, want %d", blocks, e, want)
	}
}

// used holds what Used tells of all inodes, and of numbers beside them, to those that are in use.
func used(t *testing.T, s *space.Space, x api.Super, want ...int) {
	t.Helper()
	for _, i := range append(rising(-3, x.Sectors+70), noInodes(x)...) {
		if got := s.Used(i); got != slices.Contains(want, i) {
			t.Errorf("Used(%d): %v", i, got)
		}
	}
}

// empties holds all that a space has to the lists of what is free, by taking it: nothing is left of it.
func empties(t *testing.T, s *space.Space, x api.Super, inodes, blocks, afterwards []int) {
	t.Helper()
	room(t, s, len(blocks)+len(afterwards), len(afterwards), len(inodes))
	takeInodes(t, s, inodes...)
	noInode(t, s)
	takeBlocks(t, s, blocks...)
	noBlock(t, s)
	landed(t, s, api.OK, rising(x.Inodes+1, x.Sectors-1)...)
	takeBlocks(t, s, afterwards...)
	noBlock(t, s)
	room(t, s, 0, 0, 0)
	used(t, s, x, rising(1, x.Inodes)...)
	for b := x.Inodes + 1; b < x.Sectors; b++ {
		later(t, s, b, api.OK)
	}
	room(t, s, x.Sectors-x.Inodes-1, x.Sectors-x.Inodes-1, 0)
}

func TestOfTheDocument(t *testing.T) { // P8.1 to P8.6
	for _, x := range []api.Super{{Sectors: 7, Inodes: 3}, {Sectors: 12, Inodes: 11}, {Sectors: 12, Inodes: 0}} {
		noSpace(t, x, nil, nil, api.ErrArg)
	}
	noSpace(t, small(), []int{4}, nil, api.ErrSpacePlace)
	noSpace(t, small(), nil, []int{3}, api.ErrSpacePlace)
	noSpace(t, small(), nil, []int{12}, api.ErrSpacePlace)
	noSpace(t, small(), []int{2, 2}, nil, api.ErrSpacePlace)

	s := begin(t, small(), []int{1}, []int{4, 6})
	room(t, s, 6, 0, 2)
	takeBlocks(t, s, 5, 7)
	takeInodes(t, s, 2, 3)
	noInode(t, s)
	used(t, s, small(), 1, 2, 3)
	freeInode(t, s, 3, api.OK)
	freeInode(t, s, 3, api.ErrSpacePlace)
	freeInode(t, s, 1, api.ErrSpacePlace)
	used(t, s, small(), 1, 2)
	later(t, s, 5, api.OK)
	for _, b := range []int{5, 8, 3} {
		later(t, s, b, api.ErrSpacePlace)
	}
	room(t, s, 5, 1, 1)
	takeBlocks(t, s, 8, 9, 10, 11)
	noBlock(t, s)
	landed(t, s, api.ErrSpacePlace, 5, 3)
	noBlock(t, s)
	landed(t, s, api.OK, 4, 5, 5)
	takeBlocks(t, s, 5)

	s = begin(t, small(), nil, nil)
	used(t, s, small(), 1)
	room(t, s, 8, 0, 2)
}

func TestNewOfSupersThatMayNotBe(t *testing.T) { // P8.1, R2: ahead of what is wrong in a list
	for _, x := range wrongSupers() {
		for _, list := range [][]int{nil, {1}, {2}, {99}, {-1}, {5, 5}} {
			noSpace(t, x, list, nil, api.ErrArg)
			noSpace(t, x, nil, list, api.ErrArg)
			noSpace(t, x, list, list, api.ErrArg)
		}
	}
}

func TestNewOfEachSuper(t *testing.T) { // P8.1
	for sectors := range 60 {
		for inodes := -2; inodes < 62; inodes++ {
			x := api.Super{Sectors: sectors, Inodes: inodes}
			if sectors >= 8 && inodes >= 1 && inodes+2 <= sectors {
				room(t, begin(t, x, nil, nil), sectors-inodes-1, 0, inodes-1)
			} else {
				noSpace(t, x, nil, nil, api.ErrArg)
			}
		}
	}
	for _, sectors := range []int{513, 514, 4095, 4096, 4097} {
		for inodes := 508; inodes < 516; inodes++ {
			x := api.Super{Sectors: sectors, Inodes: inodes}
			if sectors <= 4096 && inodes <= 512 && inodes+2 <= sectors {
				room(t, begin(t, x, nil, nil), sectors-inodes-1, 0, inodes-1)
			} else {
				noSpace(t, x, nil, nil, api.ErrArg)
			}
		}
	}
}

func TestNewOfNothingInUse(t *testing.T) { // P8.1, R4: no list and one of nothing are one
	for _, x := range supers() {
		for _, list := range [][]int{nil, {}, make([]int, 0, 9)} {
			s := begin(t, x, list, list)
			used(t, s, x, 1)
			empties(t, s, x, rising(2, x.Inodes), rising(x.Inodes+1, x.Sectors-1), nil)
		}
	}
}

func TestNewOfAllInUse(t *testing.T) { // P8.1, whatever the lists' order
	for _, x := range supers() {
		inodes, blocks := rising(1, x.Inodes), rising(x.Inodes+1, x.Sectors-1)
		used(t, begin(t, x, inodes, blocks), x, inodes...)
		empties(t, begin(t, x, inodes, blocks), x, nil, nil, nil)
		slices.Reverse(inodes)
		slices.Reverse(blocks)
		empties(t, begin(t, x, inodes, blocks), x, nil, nil, nil)
		empties(t, begin(t, x, inodes[:x.Inodes-1], blocks), x, nil, nil, nil) // but the root, which is last here
	}
}

func TestNewOfSomeInUse(t *testing.T) { // P8.1
	x := small()
	for _, c := range []struct{ inodes, blocks, freeInodes, freeBlocks []int }{
		{[]int{1}, []int{4, 6}, []int{2, 3}, []int{5, 7, 8, 9, 10, 11}},
		{nil, []int{11}, []int{2, 3}, []int{4, 5, 6, 7, 8, 9, 10}},
		{[]int{3}, []int{4}, []int{2}, []int{5, 6, 7, 8, 9, 10, 11}},
		{[]int{2, 1}, []int{10, 5, 7}, []int{3}, []int{4, 6, 8, 9, 11}},
		{[]int{3, 2}, nil, nil, rising(4, 11)},
		{[]int{3, 1, 2}, []int{11, 4}, nil, rising(5, 10)},
	} {
		empties(t, begin(t, x, c.inodes, c.blocks), x, c.freeInodes, c.freeBlocks, nil)
	}
}

func TestNewOfWrongLists(t *testing.T) { // P8.1
	for _, x := range supers() {
		for _, i := range noInodes(x) {
			noSpace(t, x, []int{i}, nil, api.ErrSpacePlace)
			noSpace(t, x, []int{1, i}, []int{x.Sectors - 1}, api.ErrSpacePlace)
			noSpace(t, x, []int{i, 1}, nil, api.ErrSpacePlace)
			noSpace(t, x, append(rising(1, x.Inodes), i), nil, api.ErrSpacePlace)
		}
		for _, b := range noBlocks(x) {
			noSpace(t, x, nil, []int{b}, api.ErrSpacePlace)
			noSpace(t, x, []int{1}, []int{x.Sectors - 1, b}, api.ErrSpacePlace)
			noSpace(t, x, nil, []int{b, x.Sectors - 1}, api.ErrSpacePlace)
			noSpace(t, x, nil, append(rising(x.Inodes+1, x.Sectors-1), b), api.ErrSpacePlace)
			noSpace(t, x, []int{0}, []int{b}, api.ErrSpacePlace)
		}
		for _, i := range []int{1, (x.Inodes + 1) / 2, x.Inodes} {
			noSpace(t, x, []int{i, i}, nil, api.ErrSpacePlace)
			noSpace(t, x, append(rising(1, x.Inodes), i), nil, api.ErrSpacePlace)
			noSpace(t, x, append([]int{i}, rising(1, x.Inodes)...), []int{x.Sectors - 1}, api.ErrSpacePlace)
		}
		for _, b := range []int{x.Inodes + 1, (x.Inodes + x.Sectors) / 2, x.Sectors - 1} {
			noSpace(t, x, nil, []int{b, b}, api.ErrSpacePlace)
			noSpace(t, x, nil, append(rising(x.Inodes+1, x.Sectors-1), b), api.ErrSpacePlace)
			noSpace(t, x, []int{1}, append([]int{b}, rising(x.Inodes+1, x.Sectors-1)...), api.ErrSpacePlace)
		}
	}
	noSpace(t, small(), nil, make([]int, 1<<20), api.ErrSpacePlace)
}

func TestListsThatWereHandedIn(t *testing.T) { // R4: neither changed nor kept
	for _, spare := range []int{0, 5} {
		inodes, blocks := make([]int, 0, 2+spare), make([]int, 0, 3+spare)
		inodes, blocks = append(inodes, 3, 1), append(blocks, 9, 4, 6)
		beyond := inodes[:cap(inodes)]
		s := begin(t, small(), inodes, blocks)
		if !slices.Equal(inodes, []int{3, 1}) || !slices.Equal(blocks, []int{9, 4, 6}) || slices.ContainsFunc(beyond[2:], func(i int) bool { return i != 0 }) {
			t.Errorf("New has changed its lists: %v %v %v", inodes, blocks, beyond)
		}
		for i := range inodes {
			inodes[i] = 2
		}
		for i := range blocks {
			blocks[i] = 11
		}
		used(t, s, small(), 1, 3)

		given := []int{6, 9, 6}
		later(t, s, 6, api.OK)
		later(t, s, 9, api.OK)
		landed(t, s, api.OK, given...)
		if !slices.Equal(given, []int{6, 9, 6}) {
			t.Errorf("Landed has changed its list: %v", given)
		}
		given[0], given[1], given[2] = 4, 4, 4
		wrong := []int{9, 3, 4}
		landed(t, s, api.ErrSpacePlace, wrong...)
		if !slices.Equal(wrong, []int{9, 3, 4}) {
			t.Errorf("Landed has changed its list: %v", wrong)
		}
		empties(t, s, small(), []int{2}, []int{5, 6, 7, 8, 9, 10, 11}, nil)
	}
}

func TestListsOfARefusedNew(t *testing.T) { // R4, P8.1
	inodes, blocks := []int{3, 1, 3}, []int{9, 4, 99}
	noSpace(t, small(), inodes, nil, api.ErrSpacePlace)
	noSpace(t, small(), nil, blocks, api.ErrSpacePlace)
	noSpace(t, api.Super{}, inodes, blocks, api.ErrArg)
	if !slices.Equal(inodes, []int{3, 1, 3}) || !slices.Equal(blocks, []int{9, 4, 99}) {
		t.Errorf("New has changed its lists: %v %v", inodes, blocks)
	}
}

func TestTheLeastInodeBehindSomeThatWereFreed(t *testing.T) { // P8.2, P8.3
	x := api.Super{Sectors: 200, Inodes: 130}
	s := begin(t, x, nil, nil)
	takeInodes(t, s, rising(2, 130)...)
	noInode(t, s)
	for _, i := range []int{130, 2, 64, 65, 63, 128} {
		freeInode(t, s, i, api.OK)
		if s.Used(i) {
			t.Errorf("%d is in use behind FreeInode", i)
		}
	}
	room(t, s, 69, 0, 6)
	takeInodes(t, s, 2, 63)
	freeInode(t, s, 2, api.OK)
	takeInodes(t, s, 2, 64, 65, 128, 130)
	noInode(t, s)
	used(t, s, x, rising(1, 130)...)
	empties(t, s, x, nil, rising(131, 199), nil)
}

func TestTheRootIsNeitherGivenNorFree(t *testing.T) { // P8.1, P8.2, P8.3
	for _, x := range supers() {
		for _, told := range [][]int{nil, {1}, {x.Inodes}} {
			s := begin(t, x, told, nil)
			freeInode(t, s, 1, api.ErrSpacePlace)
			if !s.Used(1) {
				t.Errorf("%v: the root is free", x)
			}
			for range x.Inodes + 1 {
				if i, _ := s.TakeInode(); i == 1 {
					t.Errorf("%v: the root was given", x)
				}
			}
			freeInode(t, s, 1, api.ErrSpacePlace)
			for i := 2; i <= x.Inodes; i++ {
				freeInode(t, s, i, api.OK)
			}
			freeInode(t, s, 1, api.ErrSpacePlace)
			used(t, s, x, 1)
			empties(t, s, x, rising(2, x.Inodes), rising(x.Inodes+1, x.Sectors-1), nil)
		}
	}
}

func TestFreeInodeThatIsRefused(t *testing.T) { // P8.3, R3
	for _, x := range supers() {
		s := begin(t, x, []int{x.Inodes}, []int{x.Sectors - 1})
		for range 2 {
			for _, i := range append(noInodes(x), 1) {
				freeInode(t, s, i, api.ErrSpacePlace)
			}
			for i := 2; i < x.Inodes; i++ {
				freeInode(t, s, i, api.ErrSpacePlace)
			}
		}
		used(t, s, x, 1, x.Inodes)
		empties(t, s, x, rising(2, x.Inodes-1), rising(x.Inodes+1, x.Sectors-2), nil)
	}
}

func TestFreeInodeTwice(t *testing.T) { // P8.3
	s := begin(t, small(), []int{2, 3}, nil)
	freeInode(t, s, 2, api.OK)
	room(t, s, 8, 0, 1)
	freeInode(t, s, 2, api.ErrSpacePlace)
	room(t, s, 8, 0, 1)
	takeInodes(t, s, 2)
	freeInode(t, s, 2, api.OK)
	used(t, s, small(), 1, 3)
	empties(t, s, small(), []int{2}, rising(4, 11), nil)
}

func TestWhatIsLaterIsNotGivenAheadOfLanded(t *testing.T) { // P8.2, P8.4, P8.5
	s := begin(t, small(), nil, nil)
	takeBlocks(t, s, 4, 5, 6)
	later(t, s, 4, api.OK)
	room(t, s, 6, 1, 2)
	later(t, s, 6, api.OK)
	room(t, s, 7, 2, 2)
	takeBlocks(t, s, 7)
	landed(t, s, api.OK, 5)
	takeBlocks(t, s, 8)
	landed(t, s, api.OK, 6)
	room(t, s, 5, 1, 2)
	takeBlocks(t, s, 6, 9)
	later(t, s, 6, api.OK)
	landed(t, s, api.OK, 4)
	room(t, s, 4, 1, 2)
	takeBlocks(t, s, 4, 10, 11)
	noBlock(t, s)
	room(t, s, 1, 1, 2)
	landed(t, s, api.OK, 6)
	takeBlocks(t, s, 6)
	empties(t, s, small(), []int{2, 3}, nil, nil)
}

func TestLaterOfWhatWasToldToNew(t *testing.T) { // P8.1, P8.4
	s := begin(t, small(), nil, []int{7, 4, 11})
	later(t, s, 4, api.OK)
	later(t, s, 11, api.OK)
	empties(t, s, small(), []int{2, 3}, []int{5, 6, 8, 9, 10}, []int{4, 11})
}

func TestLaterTwice(t *testing.T) { // P8.4
	s := begin(t, small(), nil, []int{5, 6})
	later(t, s, 5, api.OK)
	room(t, s, 7, 1, 2)
	later(t, s, 5, api.ErrSpacePlace)
	room(t, s, 7, 1, 2)
	landed(t, s, api.OK, 5)
	room(t, s, 7, 0, 2)
	later(t, s, 5, api.ErrSpacePlace) // it is free now
	room(t, s, 7, 0, 2)
	takeBlocks(t, s, 4, 5)
	later(t, s, 5, api.OK)
	room(t, s, 6, 1, 2)
	empties(t, s, small(), []int{2, 3}, rising(7, 11), []int{5})
}

func TestLaterThatIsRefused(t *testing.T) { // P8.4, R3
	for _, x := range supers() {
		first, last := x.Inodes+1, x.Sectors-1
		s := begin(t, x, rising(1, x.Inodes), []int{last})
		for range 2 {
			for _, b := range noBlocks(x) {
				later(t, s, b, api.ErrSpacePlace)
			}
			for b := first; b < last; b++ {
				later(t, s, b, api.ErrSpacePlace)
			}
		}
		empties(t, s, x, nil, rising(first, last-1), nil)
	}
}

func TestLandedOfNone(t *testing.T) { // P8.5, R4
	s := begin(t, small(), nil, []int{4, 5})
	later(t, s, 4, api.OK)
	for _, none := range [][]int{nil, {}, make([]int, 0, 3)} {
		landed(t, s, api.OK, none...)
		room(t, s, 7, 1, 2)
	}
	empties(t, s, small(), []int{2, 3}, rising(6, 11), []int{4})
}

func TestLandedOfOneThatStandsThereTwice(t *testing.T) { // P8.5
	s := begin(t, small(), nil, []int{4, 5, 6})
	later(t, s, 4, api.OK)
	later(t, s, 6, api.OK)
	landed(t, s, api.OK, 4, 4, 5, 5, 7, 7, 4)
	room(t, s, 7, 1, 2)
	later(t, s, 5, api.OK) // it was passed over: it is in use yet
	empties(t, s, small(), []int{2, 3}, []int{4, 7, 8, 9, 10, 11}, []int{5, 6})
}

func TestLandedPassesOthersOver(t *testing.T) { // P8.5: those in use stay so, those that are free too
	s := begin(t, small(), nil, []int{4, 5})
	landed(t, s, api.OK, rising(4, 11)...)
	room(t, s, 6, 0, 2)
	takeBlocks(t, s, 6)
	later(t, s, 4, api.OK)
	landed(t, s, api.OK, 5, 6, 7, 8, 9, 10, 11)
	room(t, s, 6, 1, 2)
	later(t, s, 7, api.ErrSpacePlace)
	empties(t, s, small(), []int{2, 3}, rising(7, 11), []int{4})
}

func TestLandedAheadOfLater(t *testing.T) { // P8.5: what has landed before counts for nothing
	s := begin(t, small(), nil, rising(4, 11))
	landed(t, s, api.OK, 4)
	later(t, s, 4, api.OK)
	noBlock(t, s)
	room(t, s, 1, 1, 2)
	landed(t, s, api.OK, 4)
	takeBlocks(t, s, 4)
	later(t, s, 4, api.OK)
	noBlock(t, s)
	empties(t, s, small(), []int{2, 3}, nil, []int{4})
}

func TestLandedThatIsRefused(t *testing.T) { // P8.5, R3: nothing has changed, wherever the wrong one stands
	for _, x := range supers() {
		last := x.Sectors - 1
		for _, b := range noBlocks(x) {
			s := begin(t, x, nil, rising(x.Inodes+1, last))
			later(t, s, last, api.OK)
			for _, list := range [][]int{{b}, {b, last}, {last, b}, {last, last, b, last}, append(rising(x.Inodes+1, last), b)} {
				landed(t, s, api.ErrSpacePlace, list...)
				room(t, s, 1, 1, x.Inodes-1)
				noBlock(t, s)
			}
			later(t, s, last, api.ErrSpacePlace)
			empties(t, s, x, rising(2, x.Inodes), nil, []int{last})
		}
	}
}

func TestNoneLeft(t *testing.T) { // P8.2, R3: asked as often as one likes
	for _, x := range supers() {
		s := begin(t, x, rising(1, x.Inodes), rising(x.Inodes+1, x.Sectors-1))
		for range 3 {
			noBlock(t, s)
			noInode(t, s)
			room(t, s, 0, 0, 0)
		}
		later(t, s, x.Sectors-1, api.OK)
		for range 3 {
			noBlock(t, s)
			room(t, s, 1, 1, 0)
		}
		empties(t, s, x, nil, nil, []int{x.Sectors - 1})
	}
}

func TestInodesAndBlocksApart(t *testing.T) { // P8.2 to P8.5: what is told of the ones changes nothing of the others
	s := begin(t, small(), nil, []int{4})
	takeInodes(t, s, 2, 3)
	later(t, s, 2, api.ErrSpacePlace)
	landed(t, s, api.ErrSpacePlace, 2)
	freeInode(t, s, 4, api.ErrSpacePlace)
	noInode(t, s)
	takeBlocks(t, s, rising(5, 11)...)
	noBlock(t, s)
	freeInode(t, s, 2, api.OK)
	noBlock(t, s)
	later(t, s, 4, api.OK)
	landed(t, s, api.OK, 4)
	takeInodes(t, s, 2)
	noInode(t, s)
	empties(t, s, small(), nil, []int{4}, nil)
}

func TestTwoSpaces(t *testing.T) { // the chapter's 'Two spaces have nothing to do with each other'
	inodes, blocks := []int{2}, []int{4, 6}
	a, b := begin(t, small(), inodes, blocks), begin(t, small(), inodes, blocks)
	if a == b {
		t.Fatal("two spaces are one")
	}
	takeBlocks(t, a, 5, 7)
	later(t, a, 4, api.OK)
	takeInodes(t, a, 3)
	freeInode(t, a, 2, api.OK)
	room(t, b, 6, 0, 1)
	used(t, b, small(), 1, 2)
	landed(t, b, api.OK, 4)
	room(t, a, 5, 1, 1)
	later(t, b, 6, api.OK)
	landed(t, a, api.OK, 6)
	room(t, b, 7, 1, 1)
	empties(t, a, small(), []int{2}, []int{8, 9, 10, 11}, []int{4})
	empties(t, b, small(), []int{3}, []int{5, 7, 8, 9, 10, 11}, []int{6})
	room(t, begin(t, small(), nil, nil), 8, 0, 2)
}
