package bits_test

import (
	"math"
	"testing"

	"breakwater/api"
	"breakwater/bits"
)

// row is one of n places of which some were set.
func row(t *testing.T, n int, set ...int) *bits.Bits {
	t.Helper()
	b, e := bits.New(n)
	if b == nil || e != api.OK {
		t.Fatalf("New(%d): %v, %d", n, b, e)
	}
	for _, i := range set {
		put(t, b, i, api.OK)
	}
	return b
}

// rowAllSet is one of n places, all of them set.
func rowAllSet(t *testing.T, n int) *bits.Bits {
	t.Helper()
	b := row(t, n)
	for i := range n {
		put(t, b, i, api.OK)
	}
	return b
}

func put(t *testing.T, b *bits.Bits, i int, want api.Errno) {
	t.Helper()
	if e := b.Set(i); e != want {
		t.Errorf("Set(%d): %d, want %d", i, e, want)
	}
}

func wipe(t *testing.T, b *bits.Bits, i int, want api.Errno) {
	t.Helper()
	if e := b.Clear(i); e != want {
		t.Errorf("Clear(%d): %d, want %d", i, e, want)
	}
}

func has(t *testing.T, b *bits.Bits, i int, want bool) {
	t.Helper()
	if got := b.Has(i); got != want {
		t.Errorf("Has(%d): %v", i, got)
	}
}

func count(t *testing.T, b *bits.Bits, want int) {
	t.Helper()
	if n := b.Count(); n != want {
		t.Errorf("Count: %d, want %d", n, want)
	}
}

func length(t *testing.T, b *bits.Bits, want int) {
	t.Helper()
	if n := b.Len(); n != want {
		t.Errorf("Len: %d, want %d", n, want)
	}
}

func first(t *testing.T, b *bits.Bits, from, want int) {
	t.Helper()
	if i, found := b.First(from); i != want || !found {
		t.Errorf("First(%d): %d, %v, want %d", from, i, found, want)
	}
}

func noFirst(t *testing.T, b *bits.Bits, from int) {
	t.Helper()
	if i, found := b.First(from); i != 0 || found {
		t.Errorf("First(%d): %d, %v, want none", from, i, found)
	}
}

// sizes are those that a row may have: the least and the greatest, and some around whole words.
func sizes() []int { return []int{0, 1, 2, 63, 64, 65, 127, 128, 129, 200, 4032, 4095, 4096} }

// beyond are numbers that are no place of a row of n places.
func beyond(n int) []int {
	return []int{-1, -2, -63, -64, -65, -4096, n, n + 1, n + 63, n + 64, n + 65, 4096, 4097, 1 << 32, -1 << 32, math.MaxInt, math.MinInt}
}

// around are places of a row of n places: its ends, and those around whole words.
func around(n int) []int {
	var list []int
	for _, i := range []int{0, 1, 31, 32, 62, 63, 64, 65, 127, 128, 129, 4031, 4032, n - 2, n - 1} {
		if i >= 0 && i < n {
			list = append(list, i)
		}
	}
	return list
}

func TestNewOfSizesThatMayNotBe(t *testing.T) { // P5.1, R2, R6
	for _, n := range []int{-1, -2, -64, -4096, 4097, 4098, 8192, 1 << 32, 1<<32 + 1, -1 << 32, math.MaxInt, math.MaxInt - 1, math.MinInt} {
		if b, e := bits.New(n); b != nil || e != api.ErrBitsSize {
			t.Errorf("New(%d): %v, %d", n, b, e)
		}
	}
}

func TestNew(t *testing.T) { // P5.1
	for _, n := range sizes() {
		b := row(t, n)
		length(t, b, n)
		count(t, b, 0)
		for i := range n {
			has(t, b, i, false)
			first(t, b, i, i)
		}
		noFirst(t, b, n)
	}
}

func TestLenStays(t *testing.T) { // P5.1
	for _, n := range sizes() {
		b := rowAllSet(t, n)
		length(t, b, n)
		for _, i := range append(around(n), beyond(n)...) {
			b.Clear(i)
			b.Set(i)
			length(t, b, n)
		}
	}
}

func TestPlacesThatAreNone(t *testing.T) { // P5.2, P5.3, R3
	for _, n := range sizes() {
		for _, b := range []*bits.Bits{row(t, n), row(t, n, around(n)...), rowAllSet(t, n)} {
			had := b.Count()
			was := make([]bool, n)
			for i := range n {
				was[i] = b.Has(i)
			}
			for _, i := range beyond(n) {
				put(t, b, i, api.ErrBitsPlace)
				wipe(t, b, i, api.ErrBitsPlace)
				has(t, b, i, false)
			}
			count(t, b, had)
			for i := range n {
				has(t, b, i, was[i])
			}
		}
	}
}

func TestSetTwiceAndClearedTwice(t *testing.T) { // P5.2, P5.3, P5.5
	for _, n := range sizes() {
		b := row(t, n)
		for _, i := range around(n) {
			if b.Has(i) {
				t.Errorf("%d is set in a row of %d", i, n)
			}
			for range 2 {
				put(t, b, i, api.OK)
				has(t, b, i, true)
				count(t, b, 1)
			}
			for range 2 {
				wipe(t, b, i, api.OK)
				has(t, b, i, false)
				count(t, b, 0)
			}
			put(t, b, i, api.OK)
			has(t, b, i, true)
			wipe(t, b, i, api.OK)
		}
	}
}

func TestAPlaceAlone(t *testing.T) { // P5.2, P5.3: no other place is changed
	for _, n := range []int{1, 2, 63, 64, 65, 129, 200} {
		for i := range n {
			one, rest := row(t, n, i), rowAllSet(t, n)
			wipe(t, rest, i, api.OK)
			for k := range n {
				has(t, one, k, k == i)
				has(t, rest, k, k != i)
			}
			count(t, one, 1)
			count(t, rest, n-1)
		}
	}
}

func TestFirstInARowWithNothingSet(t *testing.T) { // P5.4
	for _, n := range sizes() {
		b := row(t, n)
		for _, from := range []int{-1, -2, -64, -4096, math.MinInt, 0} {
			if n == 0 {
				noFirst(t, b, from)
			} else {
				first(t, b, from, 0)
			}
		}
		for _, from := range around(n) {
			first(t, b, from, from)
		}
		for _, from := range []int{n, n + 1, n + 63, n + 64, 4096, 4097, 1 << 32, math.MaxInt - 63, math.MaxInt} {
			noFirst(t, b, from)
		}
	}
}

func TestFirstInARowThatIsAllSet(t *testing.T) { // P5.4
	for _, n := range sizes() {
		b := rowAllSet(t, n)
		for _, from := range append(beyond(n), around(n)...) {
			noFirst(t, b, from)
		}
		count(t, b, n)
	}
}

func TestFirstOfOneThatIsLeft(t *testing.T) { // P5.4
	for _, n := range sizes() {
		b := rowAllSet(t, n)
		for _, i := range around(n) {
			wipe(t, b, i, api.OK)
			for _, from := range []int{math.MinInt, -9, -1, 0, i - 64, i - 1, i} {
				first(t, b, from, i)
			}
			for _, from := range []int{i + 1, i + 2, i + 64, n, n + 1, math.MaxInt} {
				noFirst(t, b, from)
			}
			put(t, b, i, api.OK)
		}
	}
}

func TestFirstIsTheLeastOne(t *testing.T) { // P5.4
	for _, n := range []int{64, 65, 70, 128, 200, 4096} {
		b := row(t, n, 0, 1, 3, 62, 63)
		first(t, b, 0, 2)
		first(t, b, 2, 2)
		first(t, b, 3, 4)
		first(t, b, 61, 61)
		if n > 64 {
			first(t, b, 62, 64)
			first(t, b, 63, 64)
			put(t, b, 64, api.OK)
		}
		if n > 65 {
			first(t, b, 62, 65)
			first(t, b, 64, 65)
			first(t, b, n-1, n-1)
		} else {
			noFirst(t, b, 62)
			noFirst(t, b, n-1)
		}
	}
}

func TestFirstChangesNothing(t *testing.T) { // P5.4
	b := row(t, 130, 0, 64, 128)
	for range 3 {
		first(t, b, 0, 1)
		first(t, b, 64, 65)
		first(t, b, 128, 129)
		noFirst(t, b, 130)
		count(t, b, 3)
		has(t, b, 1, false)
		has(t, b, 64, true)
	}
}

func TestCount(t *testing.T) { // P5.5
	for _, n := range sizes() {
		b := row(t, n)
		for i := range n {
			count(t, b, i)
			put(t, b, n-1-i, api.OK)
		}
		count(t, b, n)
		for i := range n {
			wipe(t, b, i, api.OK)
			count(t, b, n-1-i)
		}
	}
}

func TestTwoRows(t *testing.T) { // the chapter's 'Two rows have nothing to do with each other'
	for _, n := range []int{1, 64, 65, 4096} {
		a, b := rowAllSet(t, n), row(t, n)
		if a == b {
			t.Fatal("two rows are one")
		}
		count(t, b, 0)
		put(t, b, n-1, api.OK)
		wipe(t, a, 0, api.OK)
		count(t, a, n-1)
		count(t, b, 1)
		has(t, a, 0, false)
		has(t, b, n-1, true)
		first(t, a, 0, 0)
		wipe(t, b, n-1, api.OK)
		has(t, a, n-1, n > 1)
		count(t, row(t, n), 0)
	}
}

func TestOfTheDocument(t *testing.T) { // P5.1 to P5.5
	for _, n := range []int{-1, 4097} {
		if b, e := bits.New(n); b != nil || e != api.ErrBitsSize {
			t.Errorf("New(%d): %v, %d", n, b, e)
		}
	}
	b := row(t, 0)
	length(t, b, 0)
	count(t, b, 0)
	noFirst(t, b, 0)
	put(t, b, 0, api.ErrBitsPlace)
	has(t, b, 0, false)

	b = row(t, 70, 0, 1, 64, 64)
	count(t, b, 3)
	for _, c := range [][2]int{{0, 2}, {1, 2}, {64, 65}, {69, 69}, {-9, 2}} {
		first(t, b, c[0], c[1])
	}
	noFirst(t, b, 70)
	for _, i := range []int{65, 70, -1} {
		has(t, b, i, false)
	}
	has(t, b, 64, true)
	wipe(t, b, 0, api.OK)
	wipe(t, b, 5, api.OK)
	wipe(t, b, 70, api.ErrBitsPlace)
	first(t, b, 0, 0)
	count(t, b, 2)

	b = rowAllSet(t, 4096)
	noFirst(t, b, 0)
	count(t, b, 4096)
	wipe(t, b, 4095, api.OK)
	first(t, b, 0, 4095)
}
