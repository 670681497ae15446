package bits_test

import (
	"math"
	"slices"
	"testing"

	"breakwater/api"
	"breakwater/bits"
)

// told is what a row was told, a place an element.
type told []bool

// first is the least place from a number on that is not set; -1 is none.
func (h told) first(from int) int {
	from = min(max(from, 0), len(h))
	if i := slices.Index(h[from:], false); i >= 0 {
		return from + i
	}
	return -1
}

func (h told) count() int {
	n := 0
	for _, set := range h {
		if set {
			n++
		}
	}
	return n
}

// steps answers numbers below a limit, the same ones in every run.
func steps(seed uint32) func(limit int) int {
	return func(limit int) int {
		seed = seed*1664525 + 1013904223
		return int(seed>>8) % limit
	}
}

// tell sets or clears a place, or a number that is none, and holds the answer to what the row was told.
func tell(t *testing.T, b *bits.Bits, h told, next func(int) int) {
	t.Helper()
	i := next(len(h)+6) - 3
	if next(20) == 0 {
		some := beyond(len(h))
		i = some[next(len(some))]
	}
	is := i >= 0 && i < len(h)
	want := api.OK
	if !is {
		want = api.ErrBitsPlace
	}
	set := next(5) < 3
	if set {
		put(t, b, i, want)
	} else {
		wipe(t, b, i, want)
	}
	if is {
		h[i] = set
	}
}

// agree holds all that a row tells to what it was told.
func agree(t *testing.T, b *bits.Bits, h told) {
	t.Helper()
	length(t, b, len(h))
	count(t, b, h.count())
	for i := range h {
		has(t, b, i, h[i])
	}
	for from := -2; from < len(h)+3; from++ {
		if want := h.first(from); want < 0 {
			noFirst(t, b, from)
		} else {
			first(t, b, from, want)
		}
	}
}

func TestMixedOrders(t *testing.T) { // P5.1 to P5.5, and two rows side by side
	for _, n := range []int{0, 1, 5, 63, 64, 65, 70, 130} {
		for seed := range uint32(6) {
			next := steps(seed + uint32(n)*100)
			bs := []*bits.Bits{row(t, n), row(t, n+1)}
			hs := []told{make(told, n), make(told, n+1)}
			for i := range 4*n + 20 {
				k := next(2)
				tell(t, bs[k], hs[k], next)
				agree(t, bs[0], hs[0])
				agree(t, bs[1], hs[1])
				if t.Failed() {
					t.Fatalf("size %d, seed %d, step %d", n, seed, i)
				}
			}
		}
	}
}

func TestALongRow(t *testing.T) { // P5.2 to P5.5, as long as may be
	next := steps(7)
	b, h := row(t, 4096), make(told, 4096)
	for range 40 {
		for range 300 {
			tell(t, b, h, next)
		}
		agree(t, b, h)
		if t.Failed() {
			t.FailNow()
		}
	}
}

// someRow is a row of which some places are set, more or fewer.
func someRow(t *testing.T, next func(int) int, n int) *bits.Bits {
	t.Helper()
	b := row(t, n)
	share := next(11)
	for i := range n {
		if next(10) < share {
			put(t, b, i, api.OK)
		}
	}
	return b
}

func TestCountIsThoseThatItHas(t *testing.T) { // P5.6
	for seed := range uint32(40) {
		next := steps(seed)
		b := someRow(t, next, next(400))
		n := 0
		for i := -5; i < b.Len()+70; i++ {
			if b.Has(i) {
				n++
			}
		}
		count(t, b, n)
	}
}

func TestAllAheadOfTheFirstAreSet(t *testing.T) { // P5.6
	for seed := range uint32(40) {
		next := steps(seed + 500)
		b := someRow(t, next, next(300))
		for _, from := range []int{math.MinInt, -1, 0, next(70), next(300), b.Len() - 1, b.Len()} {
			end, found := b.First(from)
			if found && (b.Has(end) || end < from || end >= b.Len()) {
				t.Errorf("First(%d): %d", from, end)
			}
			if !found {
				end = b.Len()
			}
			for i := max(from, 0); i < end; i++ {
				has(t, b, i, true)
			}
		}
	}
}

func TestToSetTheFirstAsLongAsThereIsOne(t *testing.T) { // P5.6
	for _, n := range sizes() {
		b := row(t, n)
		var list []int
		// One more than there are places: a row that never fills up must not keep the test.
		for range n + 1 {
			i, found := b.First(0)
			if !found {
				break
			}
			put(t, b, i, api.OK)
			list = append(list, i)
		}
		for i := range n {
			has(t, b, i, true)
		}
		count(t, b, n)
		if len(list) != n || !slices.IsSorted(list) || len(slices.Compact(list)) != n {
			t.Errorf("a row of %d: set were %v", n, list)
		}
	}
}
