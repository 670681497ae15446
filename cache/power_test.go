package cache_test

import (
	"slices"
	"testing"

	"breakwater/api"
	"breakwater/cache"
	"breakwater/disk"
)

// fourInARow is a disk and a cache with 6 4 2 1 put behind each other, and 0 5 beside them.
func fourInARow(t *testing.T) (*disk.Disk, *cache.Cache) {
	t.Helper()
	d, c := begin(t, 8)
	put(t, c, 6, A)
	put(t, c, 4, B, 6)
	put(t, c, 2, C, 4)
	put(t, c, 1, D, 2)
	put(t, c, 5, E)
	put(t, c, 0, E)
	for n := range 7 {
		if n != 3 {
			mark(t, c, n, n)
		}
	}
	return d, c
}

// loses plays something that meets a loss of power on each of some disks, and holds them to what landed, in order.
func loses(t *testing.T, what string, order []int, do func(c *cache.Cache) api.Errno) {
	t.Helper()
	full, c := fourInARow(t)
	is(t, what, do(c), api.OK)
	whole := full.Image()
	for left := range len(order) {
		d, c := fourInARow(t)
		d.Arm(left)
		is(t, what, do(c), api.ErrDiskDown)
		want := make([]api.Sector, 8)
		for _, n := range order[:left] {
			want[n] = whole[n]
		}
		if !slices.Equal(d.Image(), want) || d.Writes() != left || !d.Down() {
			t.Errorf("%s, %d writes left: the disk has %v, %d writes", what, left, d.Image(), d.Writes())
		}
		goodForNothing(t, d, c, nil)
	}
	d, c := fourInARow(t)
	d.Arm(len(order))
	is(t, what, do(c), api.OK)
	landed(t, c, order...)
	if !slices.Equal(d.Image(), whole) || d.Down() {
		t.Errorf("%s, as many writes left as it needs: the disk has %v", what, d.Image())
	}
}

func TestThePowerInADrain(t *testing.T) { // P4.4, R3
	loses(t, "Drain(1)", []int{6, 4, 2, 1}, func(c *cache.Cache) api.Errno { return c.Drain(1) })
	loses(t, "Drain(4)", []int{6, 4}, func(c *cache.Cache) api.Errno { return c.Drain(4) })
}

func TestThePowerInASync(t *testing.T) { // P4.4, R3
	loses(t, "Sync", []int{0, 5, 6, 4, 2, 1}, (*cache.Cache).Sync)
}

func TestThePowerInAFlush(t *testing.T) { // P4.4, R3
	loses(t, "Flush(5)", []int{5}, func(c *cache.Cache) api.Errno {
		yes, e := c.Flush(5)
		if yes != (e == api.OK) {
			t.Errorf("Flush: %v, %d", yes, e)
		}
		return e
	})
}

func TestThePowerInAPut(t *testing.T) { // P4.3, R3: of 2, which is in the way of 1
	loses(t, "Put(2)", []int{6, 4, 2}, func(c *cache.Cache) api.Errno { return c.Put(2, fullOf(E), 5, 1) })
}

func TestPutWithThePowerOff(t *testing.T) { // P4.2, P4.3: what needs no disk meets no loss of it
	d, c := begin(t, 8)
	put(t, c, 1, A)
	d.Arm(0)
	d.Write(7, fullOf(E))
	put(t, c, 2, B, 1)
	put(t, c, 1, C)
	mark(t, c, 2, 5)
	flush(t, c, 2, false)
	is(t, "Drain", c.Drain(3), api.OK)
	is(t, "Drop", c.Drop(3), api.OK)
	tells(t, c, []int{1, 2}, []int{1}, 1, 2)
	if s, e := c.Read(1); s != fullOf(C) || e != api.OK {
		t.Errorf("Read of a dirty sector: %v, %d", s, e)
	}
	if yes, e := c.Flush(1); yes || e != api.ErrDiskDown {
		t.Errorf("Flush: %v, %d", yes, e)
	}
	goodForNothing(t, d, c, nil)
}

func TestALossThatIsMetByReading(t *testing.T) { // R3: behind ErrDiskDown of any call
	for _, read := range []func(c *cache.Cache) (api.Sector, api.Errno){
		func(c *cache.Cache) (api.Sector, api.Errno) { return c.Read(0) },
		func(c *cache.Cache) (api.Sector, api.Errno) { return c.Stands(0) },
		func(c *cache.Cache) (api.Sector, api.Errno) { return c.Stands(1) },
	} {
		d, c := begin(t, 8)
		put(t, c, 1, A)
		d.Arm(0)
		d.Write(7, fullOf(E))
		if s, e := read(c); s != fullOf(zeros) || e != api.ErrDiskDown {
			t.Errorf("it reads %v, %d", s, e)
		}
		goodForNothing(t, d, c, nil)
	}
}

func TestWhatARefusedPlaceIsNot(t *testing.T) { // P4.1, R3: no loss of the disk
	d, c := begin(t, 8)
	put(t, c, 1, A)
	refuses(t, c, 8)
	is(t, "Sync", c.Sync(), api.OK)
	has(t, d, 1, zeros, A)
}

func TestListsAreNewMemory(t *testing.T) { // R4
	d, c := begin(t, 8)
	after := []int{1, 2}
	put(t, c, 1, A)
	put(t, c, 2, B, 1)
	put(t, c, 3, C, after...)
	after[0], after[1] = 5, 6
	mark(t, c, 1, 10, 11, 12)
	mark(t, c, 2, 20)
	for range 2 {
		spoil(c.Dirty())
		spoil(c.Eligible())
		spoil(c.Edges())
		tells(t, c, []int{1, 2, 3}, []int{1}, 1, 2, 1, 3, 2, 3)
	}
	flush(t, c, 1, true)
	spoil(c.Landed())
	mark(t, c, 5, 50)
	spoil(c.Landed())
	flush(t, c, 2, true)
	mark(t, c, 5, 51)
	one := c.Landed()
	mark(t, c, 5, 52, 53, 54)
	two := c.Landed()
	spoil(two)
	if !slices.Equal(one, []int{20, 51}) {
		t.Errorf("Landed: %v", one)
	}
	is(t, "Sync", c.Sync(), api.OK)
	has(t, d, 3, zeros, A, B, C)
}

// spoil writes over a list, its spare room too.
func spoil[T any](list []T) {
	var none T
	for i := range list[:cap(list)] {
		list[:cap(list)][i] = none
	}
}

func TestAfterIsNotChanged(t *testing.T) { // R4
	_, c := begin(t, 8)
	put(t, c, 1, A)
	put(t, c, 2, B, 1)
	room := []int{7, 5, 1, 1, 2, 0, 9, 9}
	put(t, c, 3, C, room[:6]...)
	put(t, c, 1, D, room[1:6]...) // 2 is behind it: it is drained
	if !slices.Equal(room, []int{7, 5, 1, 1, 2, 0, 9, 9}) {
		t.Errorf("after is now %v", room)
	}
}

func TestTwoSideBySide(t *testing.T) { // R5
	d1, c1 := begin(t, 8)
	d2, c2 := begin(t, 8)
	put(t, c1, 1, A)
	put(t, c2, 1, B)
	put(t, c2, 2, C, 1)
	mark(t, c1, 1, 1)
	mark(t, c2, 2, 2)
	tells(t, c1, []int{1}, []int{1})
	tells(t, c2, []int{1, 2}, []int{1}, 1, 2)
	d1.Arm(0)
	is(t, "Sync", c1.Sync(), api.ErrDiskDown)
	landed(t, c2)
	is(t, "Sync", c2.Sync(), api.OK)
	landed(t, c2, 2)
	has(t, d1, 0, zeros, zeros)
	has(t, d2, 2, zeros, B, C)
}
