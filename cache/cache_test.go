package cache_test

import (
	"math"
	"slices"
	"testing"

	"breakwater/api"
	"breakwater/cache"
	"breakwater/disk"
)

// The contents of the document's examples.
const (
	zeros = iota
	A
	B
	C
	D
	E
)

// fullOf is a sector with one byte at all places.
func fullOf(b byte) api.Sector {
	var s api.Sector
	for i := range s {
		s[i] = b
	}
	return s
}

// on is a cache on a disk.
func on(t *testing.T, d *disk.Disk) *cache.Cache {
	t.Helper()
	c, e := cache.New(d)
	if c == nil || e != api.OK {
		t.Fatalf("New: %v, %d", c, e)
	}
	return c
}

// begin is a disk of so many sectors of zeros, and a cache on it.
func begin(t *testing.T, sectors int) (*disk.Disk, *cache.Cache) {
	t.Helper()
	d, e := disk.New(sectors)
	if e != api.OK {
		t.Fatalf("disk.New(%d): %d", sectors, e)
	}
	return d, on(t, d)
}

func put(t *testing.T, c *cache.Cache, n int, b byte, after ...int) {
	t.Helper()
	is(t, "Put", c.Put(n, fullOf(b), after...), api.OK)
}

func mark(t *testing.T, c *cache.Cache, n int, tags ...int) {
	t.Helper()
	for _, tag := range tags {
		is(t, "Mark", c.Mark(n, tag), api.OK)
	}
}

func is(t *testing.T, what string, e, want api.Errno) {
	t.Helper()
	if e != want {
		t.Errorf("%s: %d, want %d", what, e, want)
	}
}

func flush(t *testing.T, c *cache.Cache, n int, want bool) {
	t.Helper()
	if yes, e := c.Flush(n); yes != want || e != api.OK {
		t.Errorf("Flush(%d): %v, %d; want %v", n, yes, e, want)
	}
}

// reads holds what a cache tells of a sector to what it should: by Read, and by Stands.
func reads(t *testing.T, c *cache.Cache, n int, read, stands byte) {
	t.Helper()
	if s, e := c.Read(n); s != fullOf(read) || e != api.OK {
		t.Errorf("Read(%d): %v, %d; want %ds", n, s, e, read)
	}
	if s, e := c.Stands(n); s != fullOf(stands) || e != api.OK {
		t.Errorf("Stands(%d): %v, %d; want %ds", n, s, e, stands)
	}
}

func landed(t *testing.T, c *cache.Cache, want ...int) {
	t.Helper()
	if list := c.Landed(); !slices.Equal(list, want) {
		t.Errorf("Landed: %v, want %v", list, want)
	}
}

// edgesOf is a list of edges by pairs of numbers.
func edgesOf(pairs ...int) []api.Edge {
	var list []api.Edge
	for i := 0; i+1 < len(pairs); i += 2 {
		list = append(list, api.Edge{Pre: pairs[i], Post: pairs[i+1]})
	}
	return list
}

// tells holds a cache to what should be dirty and eligible, and to its edges, by pairs.
func tells(t *testing.T, c *cache.Cache, dirty, eligible []int, pairs ...int) {
	t.Helper()
	if list := c.Dirty(); !slices.Equal(list, dirty) {
		t.Errorf("Dirty: %v, want %v", list, dirty)
	}
	if list := c.Eligible(); !slices.Equal(list, eligible) {
		t.Errorf("Eligible: %v, want %v", list, eligible)
	}
	if list := c.Edges(); !slices.Equal(list, edgesOf(pairs...)) {
		t.Errorf("Edges: %v, want %v", list, edgesOf(pairs...))
	}
}

// has holds a disk's first sectors, and how many were written, to what they should be.
func has(t *testing.T, d *disk.Disk, writes int, want ...byte) {
	t.Helper()
	image := d.Image()
	for i, b := range want {
		if image[i] != fullOf(b) {
			t.Errorf("sector %d: %v, want %ds", i, image[i], b)
		}
	}
	if d.Writes() != writes {
		t.Errorf("Writes: %d, want %d", d.Writes(), writes)
	}
}

// outside are numbers of sectors that a disk of n has not.
func outside(n int) []int {
	return []int{-1, -2, -n, n, n + 1, 2 * n, 4096, 4097, 1 << 32, -1 << 32, 1<<32 + 1, math.MaxInt, math.MinInt}
}

func TestNew(t *testing.T) { // P4.1
	if c, e := cache.New(nil); c != nil || e != api.ErrArg {
		t.Errorf("New(nil): %v, %d", c, e)
	}
	for _, n := range []int{1, 2, 8, 4095, 4096} {
		d, c := begin(t, n)
		tells(t, c, nil, nil)
		landed(t, c)
		is(t, "Sync", c.Sync(), api.OK)
		has(t, d, 0, zeros)
		reads(t, c, n-1, zeros, zeros)
	}
}

func TestNewOnADiskThatIsDown(t *testing.T) { // P4.1
	d, _ := begin(t, 8)
	d.Arm(0)
	d.Write(0, fullOf(A))
	c := on(t, d)
	tells(t, c, nil, nil)
	if s, e := c.Read(3); s != fullOf(zeros) || e != api.ErrDiskDown {
		t.Errorf("Read: %v, %d", s, e)
	}
}

// refuses holds each call that is handed a sector's number to ErrCachePlace.
func refuses(t *testing.T, c *cache.Cache, n int) {
	t.Helper()
	if s, e := c.Read(n); s != fullOf(zeros) || e != api.ErrCachePlace {
		t.Errorf("Read(%d): %v, %d", n, s, e)
	}
	if s, e := c.Stands(n); s != fullOf(zeros) || e != api.ErrCachePlace {
		t.Errorf("Stands(%d): %v, %d", n, s, e)
	}
	if yes, e := c.Flush(n); yes || e != api.ErrCachePlace {
		t.Errorf("Flush(%d): %v, %d", n, yes, e)
	}
	for _, after := range [][]int{nil, {1}, {n}, {1, n}} {
		is(t, "Put", c.Put(n, fullOf(E), after...), api.ErrCachePlace)
	}
	for _, after := range [][]int{{n}, {1, n}, {n, 1}, {1, 2, n, 3}, {0, n}} {
		is(t, "Put behind what is no sector", c.Put(0, fullOf(E), after...), api.ErrCachePlace)
		is(t, "Put behind what is no sector", c.Put(1, fullOf(E), after...), api.ErrCachePlace)
	}
	is(t, "Drain", c.Drain(n), api.ErrCachePlace)
	is(t, "Drop", c.Drop(n), api.ErrCachePlace)
	is(t, "Mark", c.Mark(n, 77), api.ErrCachePlace)
}

func TestNoSuchSector(t *testing.T) { // P4.1, P4.3, R3, R6
	for _, size := range []int{5, 8, 4096} {
		d, c := begin(t, size)
		put(t, c, 1, A)
		put(t, c, 2, B, 1)
		put(t, c, 3, C, 2)
		mark(t, c, 1, 5)
		for _, n := range outside(size) {
			if n >= 0 && n < size {
				continue
			}
			refuses(t, c, n)
		}
		// Nothing was drained either, though 1 stands in the way of 2 and 3.
		has(t, d, 0, zeros, zeros, zeros, zeros)
		tells(t, c, []int{1, 2, 3}, []int{1}, 1, 2, 2, 3)
		landed(t, c)
		reads(t, c, 1, A, zeros)
		reads(t, c, 0, zeros, zeros)
		is(t, "Sync", c.Sync(), api.OK)
		landed(t, c, 5)
	}
}

func TestNoSuchSectorWithTheDiskDown(t *testing.T) { // P4.1: ahead of all else
	d, c := begin(t, 8)
	d.Arm(0)
	d.Write(0, fullOf(A))
	for _, n := range []int{-1, 8} {
		refuses(t, c, n)
	}
	c.Stands(0)
	for _, n := range []int{-1, 8} {
		refuses(t, c, n)
	}
}

func TestEndsOfTheDisk(t *testing.T) { // P4.1 to P4.6
	for _, size := range []int{2, 8, 4096} {
		d, c := begin(t, size)
		last := size - 1
		put(t, c, last, A)
		put(t, c, 0, B, last)
		tells(t, c, []int{0, last}, []int{last}, last, 0)
		reads(t, c, last, A, zeros)
		reads(t, c, 0, B, zeros)
		mark(t, c, 0, 1)
		mark(t, c, last, 2)
		flush(t, c, 0, false)
		flush(t, c, last, true)
		is(t, "Drain", c.Drain(0), api.OK)
		landed(t, c, 2, 1)
		has(t, d, 2, B)
		reads(t, c, last, A, A)
		put(t, c, 0, C)
		put(t, c, last, C, 0)
		is(t, "Drop", c.Drop(last), api.OK)
		is(t, "Drop", c.Drop(0), api.OK)
		tells(t, c, nil, nil)
		reads(t, c, 0, B, B)
		reads(t, c, last, A, A)
	}
}

func TestADiskOfOne(t *testing.T) { // P4.3, P4.4
	d, c := begin(t, 1)
	put(t, c, 0, A, 0, 0)
	put(t, c, 0, B, 0)
	tells(t, c, []int{0}, []int{0})
	is(t, "Put", c.Put(0, fullOf(C), 1), api.ErrCachePlace)
	is(t, "Drain", c.Drain(0), api.OK)
	has(t, d, 1, B)
}

func TestOneThatStandsOnTheDiskAtFirst(t *testing.T) { // P4.2
	d, e := disk.From([]api.Sector{fullOf(A), fullOf(B), fullOf(C)})
	is(t, "From", e, api.OK)
	c := on(t, d)
	reads(t, c, 0, A, A)
	reads(t, c, 2, C, C)
	put(t, c, 2, zeros)
	reads(t, c, 2, zeros, C)
	put(t, c, 2, E)
	reads(t, c, 2, E, C)
	has(t, d, 0, A, B, C)
	flush(t, c, 2, true)
	reads(t, c, 2, E, E)
	has(t, d, 1, A, B, E)
	put(t, c, 2, D)
	is(t, "Drop", c.Drop(2), api.OK)
	reads(t, c, 2, E, E)
}

func TestAllOfASector(t *testing.T) { // P4.2, P4.4: each byte of it
	d, c := begin(t, 3)
	var s api.Sector
	for i := range s {
		s[i] = byte(i*i + 1)
	}
	is(t, "Put", c.Put(1, s), api.OK)
	if got, _ := c.Read(1); got != s {
		t.Errorf("Read: %v", got)
	}
	is(t, "Sync", c.Sync(), api.OK)
	if d.Image()[1] != s {
		t.Errorf("on the disk: %v", d.Image()[1])
	}
}

func TestReadWritesNothing(t *testing.T) { // P4.2, P4.7
	d, c := begin(t, 8)
	put(t, c, 1, A)
	put(t, c, 2, B, 1)
	for range 3 {
		for n := range 8 {
			c.Read(n)
			c.Stands(n)
		}
		tells(t, c, []int{1, 2}, []int{1}, 1, 2)
	}
	has(t, d, 0)
}

func TestPutOfWhatNeedNotWait(t *testing.T) { // P4.3: itself, those that are not dirty, one twice
	d, c := begin(t, 8)
	put(t, c, 3, A, 3, 4, 0, 7, 3)
	tells(t, c, []int{3}, []int{3})
	put(t, c, 4, B, 3, 3, 4, 3, 5, 5)
	tells(t, c, []int{3, 4}, []int{3}, 3, 4)
	put(t, c, 4, C, 3)
	tells(t, c, []int{3, 4}, []int{3}, 3, 4)
	has(t, d, 0)
	// It stands there once: with 3 landed nothing leads to 4 any more.
	flush(t, c, 3, true)
	tells(t, c, []int{4}, []int{4})
	put(t, c, 5, D, 3, 4)
	tells(t, c, []int{4, 5}, []int{4}, 4, 5)
	// What becomes dirty later makes none wait that was put ahead of that.
	put(t, c, 3, E)
	tells(t, c, []int{3, 4, 5}, []int{3, 4}, 4, 5)
}

func TestPutKeepsEdgesAndTags(t *testing.T) { // P4.3
	d, c := begin(t, 8)
	put(t, c, 1, A)
	put(t, c, 2, B, 1)
	put(t, c, 3, C, 2)
	mark(t, c, 2, 8, 9)
	put(t, c, 2, D)
	put(t, c, 2, E, 1)
	tells(t, c, []int{1, 2, 3}, []int{1}, 1, 2, 2, 3)
	has(t, d, 0)
	landed(t, c)
	mark(t, c, 2, 7)
	is(t, "Sync", c.Sync(), api.OK)
	landed(t, c, 8, 9, 7)
	has(t, d, 3, zeros, A, E, C)
}

func TestPutThatWouldCloseARing(t *testing.T) { // P4.3, P4.8
	d, c := begin(t, 8)
	put(t, c, 1, A)
	put(t, c, 2, B, 1)
	put(t, c, 3, C, 2)
	put(t, c, 6, E)
	mark(t, c, 1, 4)
	put(t, c, 1, D, 3) // by 2
	has(t, d, 1, zeros, A, zeros, zeros)
	landed(t, c, 4)
	tells(t, c, []int{1, 2, 3, 6}, []int{2, 6}, 2, 3, 3, 1)
	reads(t, c, 1, D, A)
	put(t, c, 2, A, 6, 1, 3, 1)
	has(t, d, 2, zeros, A, B, zeros, zeros, zeros, zeros)
	tells(t, c, []int{1, 2, 3, 6}, []int{3, 6}, 1, 2, 3, 1, 3, 2, 6, 2)
}

func TestWhatIsDrainedWithIt(t *testing.T) { // P4.3: what was to land ahead of it, and it is not waited for any more
	d, c := begin(t, 8)
	put(t, c, 6, A)
	put(t, c, 5, B, 6)
	put(t, c, 4, C)
	put(t, c, 2, D, 5)
	put(t, c, 3, E, 2)
	mark(t, c, 2, 20)
	mark(t, c, 5, 50)
	mark(t, c, 6, 60)
	put(t, c, 2, A, 4, 5, 6, 3, 7, 2)
	has(t, d, 3, zeros, zeros, D, zeros, zeros, B, A)
	landed(t, c, 60, 50, 20)
	// 5 and 6 have landed meanwhile: 2 need not wait for them.
	tells(t, c, []int{2, 3, 4}, []int{3, 4}, 3, 2, 4, 2)
	reads(t, c, 2, A, D)
}

func TestADrainWritesNoOthers(t *testing.T) { // P4.3, P4.4: the least first, and none that it need not wait for
	d, c := begin(t, 12)
	put(t, c, 9, A)
	put(t, c, 8, B)
	put(t, c, 3, C, 8)
	put(t, c, 7, D)
	put(t, c, 5, E, 9, 3)
	put(t, c, 10, A, 5)
	put(t, c, 0, B)
	for n := range 12 {
		mark(t, c, n, n)
	}
	landed(t, c, 1, 2, 4, 6, 11)
	is(t, "Drain", c.Drain(5), api.OK)
	landed(t, c, 8, 3, 9, 5)
	has(t, d, 4, zeros, zeros, zeros, C, zeros, E, zeros, zeros, B, A, zeros, zeros)
	tells(t, c, []int{0, 7, 10}, []int{0, 7, 10})
	is(t, "Drain", c.Drain(5), api.OK)
	is(t, "Drain", c.Drain(11), api.OK)
	has(t, d, 4)
	is(t, "Drain", c.Drain(10), api.OK)
	landed(t, c, 10)
	tells(t, c, []int{0, 7}, []int{0, 7})
}

func TestFlush(t *testing.T) { // P4.4
	d, c := begin(t, 8)
	put(t, c, 5, A)
	put(t, c, 1, B, 5)
	mark(t, c, 1, 1)
	mark(t, c, 5, 5)
	for _, n := range []int{0, 1, 7} {
		flush(t, c, n, false)
	}
	has(t, d, 0)
	tells(t, c, []int{1, 5}, []int{5}, 5, 1)
	flush(t, c, 5, true)
	flush(t, c, 5, false)
	has(t, d, 1, zeros, zeros, zeros, zeros, zeros, A)
	landed(t, c, 5)
	tells(t, c, []int{1}, []int{1})
	flush(t, c, 1, true)
	flush(t, c, 1, false)
	landed(t, c, 1)
	has(t, d, 2, zeros, B)
	tells(t, c, nil, nil)
}

func TestSync(t *testing.T) { // P4.4, P4.8: the least of those that may land, again and again
	d, c := begin(t, 8)
	put(t, c, 7, A)
	put(t, c, 4, B)
	put(t, c, 0, C, 7)
	put(t, c, 2, D, 4, 0)
	put(t, c, 5, E)
	for _, n := range []int{7, 4, 0, 2, 5} {
		mark(t, c, n, n)
	}
	is(t, "Sync", c.Sync(), api.OK)
	landed(t, c, 4, 5, 7, 0, 2)
	has(t, d, 5, C, zeros, D, zeros, B, E, zeros, A)
	tells(t, c, nil, nil)
	is(t, "Sync", c.Sync(), api.OK)
	has(t, d, 5)
	landed(t, c)
}

func TestDrop(t *testing.T) { // P4.5, P4.11
	d, c := begin(t, 8)
	put(t, c, 1, A)
	put(t, c, 2, B, 1)
	put(t, c, 3, C, 2)
	put(t, c, 4, D, 1)
	mark(t, c, 2, 20)
	mark(t, c, 3, 30)
	is(t, "Drop", c.Drop(2), api.OK)
	tells(t, c, []int{1, 3, 4}, []int{1, 3}, 1, 4)
	reads(t, c, 2, zeros, zeros)
	is(t, "Drop", c.Drop(2), api.OK)
	is(t, "Drop", c.Drop(7), api.OK)
	tells(t, c, []int{1, 3, 4}, []int{1, 3}, 1, 4)
	has(t, d, 0)
	landed(t, c)
	put(t, c, 2, E) // put anew it has nothing of what it had
	tells(t, c, []int{1, 2, 3, 4}, []int{1, 2, 3}, 1, 4)
	mark(t, c, 2, 21)
	is(t, "Sync", c.Sync(), api.OK)
	landed(t, c, 21, 30)
	has(t, d, 4, zeros, A, E, C, D)
}

func TestTags(t *testing.T) { // P4.6, P4.11
	_, c := begin(t, 8)
	mark(t, c, 0, 3, -3, 0, math.MaxInt, math.MinInt, 3)
	landed(t, c, 3, -3, 0, math.MaxInt, math.MinInt, 3)
	landed(t, c)
	put(t, c, 1, A)
	put(t, c, 2, B, 1)
	mark(t, c, 2, 5, 4, 5)
	mark(t, c, 1, 9)
	mark(t, c, 3, 6)
	mark(t, c, 1, -9)
	mark(t, c, 2, 1)
	landed(t, c, 6)
	flush(t, c, 1, true)
	mark(t, c, 1, 10) // not dirty any more: at once
	is(t, "Drain", c.Drain(2), api.OK)
	mark(t, c, 7, 8)
	landed(t, c, 9, -9, 10, 5, 4, 5, 1, 8)
	landed(t, c)
	put(t, c, 2, C)
	is(t, "Sync", c.Sync(), api.OK)
	landed(t, c)
}

func TestTagsOfTwoSectorsStayApart(t *testing.T) { // P4.6
	_, c := begin(t, 8)
	put(t, c, 1, A)
	put(t, c, 2, B)
	for i := range 20 {
		mark(t, c, 1, i)
		mark(t, c, 2, 100+i)
		put(t, c, 1, byte(i))
	}
	flush(t, c, 2, true)
	flush(t, c, 1, true)
	list := c.Landed()
	for i := range 20 {
		if len(list) != 40 || list[i] != 100+i || list[20+i] != i {
			t.Fatalf("Landed: %v", list)
		}
	}
}

func TestListsAreRising(t *testing.T) { // P4.7, R5: whatever order the map is gone through in
	for range 10 {
		_, c := begin(t, 200)
		var all, free []int
		var pairs []int
		for n := 199; n >= 0; n-- {
			if n%2 == 0 {
				put(t, c, n, A)
			}
		}
		for n := 1; n < 200; n += 4 {
			put(t, c, n, B, n-1, 198)
		}
		for n := range 200 {
			if n%4 != 3 {
				all = append(all, n)
			}
			if n%2 == 0 {
				free = append(free, n)
			}
			if n%4 == 0 {
				pairs = append(pairs, n, n+1)
			}
		}
		for n := 1; n < 200; n += 4 {
			pairs = append(pairs, 198, n)
		}
		tells(t, c, all, free, pairs...)
	}
}

func TestOfTheDocument(t *testing.T) { // the chapter's examples
	d, c := begin(t, 8)
	put(t, c, 1, A)
	put(t, c, 2, B, 1)
	put(t, c, 3, C, 1, 2, 5, 3)
	tells(t, c, []int{1, 2, 3}, []int{1}, 1, 2, 1, 3, 2, 3)
	reads(t, c, 2, B, zeros)
	flush(t, c, 2, false)
	flush(t, c, 5, false)
	mark(t, c, 2, 7, 7)
	mark(t, c, 6, 9)
	landed(t, c, 9)
	is(t, "Drain", c.Drain(2), api.OK)
	has(t, d, 2, zeros, A, B, zeros)
	landed(t, c, 7, 7)
	tells(t, c, []int{3}, []int{3})
	put(t, c, 1, D, 3)
	tells(t, c, []int{1, 3}, []int{3}, 3, 1)
	put(t, c, 3, E, 1)
	has(t, d, 3, zeros, A, B, C)
	tells(t, c, []int{1, 3}, []int{1}, 1, 3)
	is(t, "Drop", c.Drop(1), api.OK)
	tells(t, c, []int{3}, []int{3})
	flush(t, c, 3, true)
	reads(t, c, 1, A, A)
	put(t, c, 4, A)
	put(t, c, 4, B, 4)
	tells(t, c, []int{4}, []int{4})
	is(t, "Sync", c.Sync(), api.OK)
	tells(t, c, nil, nil)
	has(t, d, 5, zeros, A, B, E, B)
	put(t, c, 5, A)
	put(t, c, 6, B, 5)
	is(t, "Arm", d.Arm(1), api.OK)
	is(t, "Sync", c.Sync(), api.ErrDiskDown)
	has(t, d, 6, zeros, A, B, E, B, A, zeros)
}

func TestAllOfALargeDisk(t *testing.T) { // P4.4, P4.8: rows of all sectors, rising and falling
	for _, name := range []string{"rising", "falling"} {
		at := func(i int) int { return i }
		if name == "falling" {
			at = func(i int) int { return 4095 - i }
		}
		d, c := begin(t, 4096)
		put(t, c, at(0), A)
		for i := 1; i < 4096; i++ {
			put(t, c, at(i), B, at(i-1))
			mark(t, c, at(i), i)
		}
		put(t, c, at(0), C) // nothing is in the way
		has(t, d, 0)
		is(t, "Drain", c.Drain(at(2000)), api.OK)
		has(t, d, 2001)
		put(t, c, at(2001), D, at(4095)) // in the way, alone
		has(t, d, 2002)
		is(t, "Sync", c.Sync(), api.OK)
		has(t, d, 4097)
		for i, tag := range c.Landed() {
			if tag != i+1 {
				t.Fatalf("%s: tag %d landed, want %d", name, tag, i+1)
			}
		}
	}
}
