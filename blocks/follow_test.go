package blocks_test

import (
	"slices"
	"testing"

	"breakwater/api"
	"breakwater/blocks"
)

// steps answers numbers below a limit, the same ones in every run.
func steps(seed uint32) func(limit int) int {
	return func(limit int) int {
		seed = seed*1664525 + 1013904223
		return int(seed>>8) % limit
	}
}

// somePointer is often none, and mostly one of few, so that some are the same.
func somePointer(next func(int) int, share int) int {
	if next(10) >= share {
		return 0
	}
	return 1 + next(40)
}

// some is an inode and a reader: of each sector that a pointer may name it has a table, fuller or emptier.
func some(seed uint32) (*teller, api.Inode) {
	next := steps(seed)
	r := &teller{tables: map[int]api.Pointers{}}
	for n := 1; n <= 40; n++ {
		share := next(11)
		var p api.Pointers
		for i := range p {
			p[i] = somePointer(next, share)
		}
		r.tables[n] = p
	}
	var x api.Inode
	share := next(11)
	for i := range x.Direct {
		x.Direct[i] = somePointer(next, share)
	}
	x.Single, x.Double = somePointer(next, 7), somePointer(next, 8)
	return r, x
}

// someIndexes are blocks' indexes, some of them close to each other, some named twice.
func someIndexes(next func(int) int) []int {
	var list []int
	for range next(12) {
		switch next(4) {
		case 0:
			list = append(list, next(60))
		case 1:
			list = append(list, edges()[next(len(edges()))])
		case 2:
			list = append(list, 44+32*next(3)+next(32))
		case 3:
			list = append(list, next(1068))
		}
		if next(5) == 0 {
			list = append(list, list[next(len(list))])
		}
	}
	return list
}

// needs is what Need answers, where it is not refused.
func needs(t *testing.T, r blocks.Reader, x api.Inode, index ...int) int {
	t.Helper()
	n, e := blocks.Need(r, x, index...)
	if e != api.OK {
		t.Errorf("Need(%v): %d", index, e)
	}
	return n
}

func TestSomeInodes(t *testing.T) { // P9.2 to P9.5
	for seed := range uint32(60) {
		r, x := some(seed)
		next := steps(seed + 1000)
		hold(t, r, x)
		for range 40 {
			holdNeed(t, r, x, someIndexes(next)...)
			holdNeed(t, r, x, append(someIndexes(next), next(1200)-60)...)
		}
		if t.Failed() {
			t.Fatalf("seed %d", seed)
		}
	}
}

func TestSomeInodesWhoseTablesAreRefused(t *testing.T) { // P9.2 to P9.5
	for seed := range uint32(60) {
		r, x := some(seed)
		next := steps(seed + 2000)
		r.refused = map[int]api.Errno{}
		for range 1 + next(12) {
			r.refused[1+next(40)] = api.Errno(1 + next(300))
		}
		hold(t, r, x)
		for range 40 {
			holdNeed(t, r, x, someIndexes(next)...)
		}
		if t.Failed() {
			t.Fatalf("seed %d", seed)
		}
	}
}

func TestNoTwoIndexesHaveOnePlace(t *testing.T) { // P9.7
	had := map[[3]int]int{}
	for index := range 1068 {
		a, b, c, e := blocks.Way(index)
		if other, there := had[[3]int{a, b, c}]; there || e != api.OK {
			t.Errorf("%d and %d are at %d, %d, %d: %d", index, other, a, b, c, e)
		}
		had[[3]int{a, b, c}] = index
	}
}

func TestFindTellsWhatSpotsHas(t *testing.T) { // P9.7
	for seed := range uint32(100) {
		r, x := some(seed)
		list, e := blocks.Spots(r, x)
		if e != api.OK {
			t.Fatalf("Spots: %d", e)
		}
		at := map[int]int{}
		for i, s := range list {
			if i > 0 && list[i-1].Index >= s.Index || s.Sector == 0 {
				t.Errorf("Spots has %v at %d of %v", s, i, list)
			}
			at[s.Index] = s.Sector
		}
		for index := range 1068 {
			find(t, r, x, index, at[index], api.OK)
		}
	}
}

func TestNeedOfWhatIsThere(t *testing.T) { // P9.8
	for seed := range uint32(100) {
		r, x := some(seed)
		list, _ := blocks.Spots(r, x)
		var index []int
		for _, s := range list {
			need(t, r, x, 0, api.OK, s.Index)
			index = append(index, s.Index)
		}
		need(t, r, x, 0, api.OK, index...)
		need(t, r, x, 0, api.OK)
	}
}

func TestNeedInAnyOrder(t *testing.T) { // P9.8
	for seed := range uint32(100) {
		r, x := some(seed)
		next := steps(seed + 3000)
		for range 20 {
			index := someIndexes(next)
			want := needs(t, r, x, index...)
			for range 4 {
				for i := range index {
					j := next(i + 1)
					index[i], index[j] = index[j], index[i]
				}
				need(t, r, x, want, api.OK, index...)
			}
			need(t, r, x, want, api.OK, slices.Concat(index, index)...)
		}
	}
}

func TestNeedOfSomeAndOfOthers(t *testing.T) { // P9.8
	for seed := range uint32(150) {
		r, x := some(seed)
		next := steps(seed + 4000)
		for range 30 {
			some, others := someIndexes(next), someIndexes(next)
			a, b, both := needs(t, r, x, some...), needs(t, r, x, others...), needs(t, r, x, slices.Concat(some, others)...)
			if both < max(a, b) || both > a+b {
				t.Errorf("Need of %v: %d; of %v: %d; of both: %d", some, a, others, b, both)
			}
		}
	}
}

func TestAllOfThem(t *testing.T) { // P9.9
	for seed := range uint32(300) {
		r, x := some(seed)
		spots, e := blocks.Spots(r, x)
		tables, f := blocks.Tables(r, x)
		if n := needs(t, r, x, all()...); n+len(spots)+len(tables) != 1102 || e != api.OK || f != api.OK {
			t.Errorf("seed %d: Need %d, %d spots, %d tables", seed, n, len(spots), len(tables))
		}
	}
}
