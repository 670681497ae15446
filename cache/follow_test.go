package cache_test

import (
	"slices"
	"testing"

	"breakwater/api"
	"breakwater/cache"
	"breakwater/disk"
)

// onceEach holds what a call wrote to P4.8: no sector twice.
func onceEach(t *testing.T, order []int) {
	t.Helper()
	for i, n := range order {
		if slices.Contains(order[:i], n) {
			t.Errorf("%d was written twice in one call: %v", n, order)
		}
	}
}

// noRing holds a cache to P4.8, by what it tells alone.
func noRing(t *testing.T, c *cache.Cache) {
	t.Helper()
	m := &model{edges: c.Edges()}
	dirty := c.Dirty()
	for _, e := range m.edges {
		if slices.Contains(m.before(e.Pre), e.Pre) {
			t.Errorf("a ring through %v: %v", e, m.edges)
		}
		if !slices.Contains(dirty, e.Pre) || !slices.Contains(dirty, e.Post) {
			t.Errorf("%v leads from or to what is not dirty: %v", e, dirty)
		}
	}
	if len(dirty) > 0 && len(c.Eligible()) == 0 {
		t.Errorf("%v are dirty, none is eligible", dirty)
	}
}

func TestMixedOrders(t *testing.T) { // P4.1 to P4.8, R5
	const size = 7
	for seed := range uint32(60) {
		next := steps(seed)
		d1, c1 := begin(t, size)
		d2, c2 := begin(t, size)
		ds, cs := []*disk.Disk{d1, d2}, []*cache.Cache{c1, c2}
		ms := []*model{newModel(size, -1), newModel(size, -1)}
		for i, k := range someCalls(next, size, 150, true) {
			w := next(2) // two side by side, which have nothing to do with each other
			want, got := k.ofModel(ms[w]), k.of(cs[w])
			if !got.equals(want) {
				t.Errorf("answers %v, want %v", got, want)
			}
			onceEach(t, ms[w].order)
			for j := range 2 {
				agree(t, ds[j], cs[j], ms[j])
				noRing(t, cs[j])
			}
			if t.Failed() {
				t.Fatalf("seed %d, step %d: %v", seed, i, k)
			}
		}
	}
}

// behind is what P4.9 asks of a disk: if it has the content post of sector n, or a later one, it has pre of a, or a later one.
type behind struct{ n, post, a, pre int }

// watch keeps what P4.9 asks, by the calls alone; contents are numbers that rise.
type watch struct {
	content map[int]int // of dirty sectors, put last
	asked   []behind
}

// tell tells a call that was made on a cache, and what was dirty ahead of it.
func (w *watch) tell(k call, dirty []int) {
	switch k.kind {
	case doPut:
		for _, a := range k.after {
			if a != k.n && slices.Contains(dirty, a) {
				w.asked = append(w.asked, behind{k.n, k.number, a, w.content[a]})
			}
		}
		w.content[k.n] = k.number
	case doDrop:
		if slices.Contains(dirty, k.n) {
			w.asked = slices.DeleteFunc(w.asked, func(b behind) bool { return b.a == k.n || b.n == k.n })
		}
	}
}

// held holds an image to P4.9.
func (w *watch) held(t *testing.T, image []int) {
	t.Helper()
	for _, b := range w.asked {
		if image[b.n] >= b.post && image[b.a] < b.pre {
			t.Errorf("%d has %d, put behind %d of %d, which has %d", b.n, image[b.n], b.pre, b.a, image[b.a])
		}
	}
}

// numbers are the contents of an image by stamped.
func numbers(d *disk.Disk) []int {
	var list []int
	for _, s := range d.Image() {
		list = append(list, int(s[0])|int(s[1])<<8|int(s[2])<<16|int(s[3])<<24)
	}
	return list
}

// cutOff plays calls till the power goes, behind so many writes; it tells whether it went. The disk is held to the model, and to P4.9.
func cutOff(t *testing.T, calls []call, size, left int) bool {
	t.Helper()
	d, c := begin(t, size)
	m := newModel(size, left)
	w := &watch{content: map[int]int{}}
	d.Arm(left)
	for i, k := range calls {
		dirty := c.Dirty()
		want, got := k.ofModel(m), k.of(c)
		if want.e != api.ErrCachePlace {
			w.tell(k, dirty)
		}
		if !got.equals(want) {
			t.Errorf("answers %v, want %v", got, want)
		}
		sameImage(t, d, m)
		w.held(t, numbers(d))
		if t.Failed() {
			t.Fatalf("left %d, step %d: %v", left, i, k)
		}
		if want.e == api.ErrDiskDown {
			goodForNothing(t, d, c, calls[i:])
			return true
		}
		agree(t, d, c, m)
	}
	return false
}

// goodForNothing holds a cache that has lost its disk to R3: its calls end and write nothing, with the power off, or on at once.
func goodForNothing(t *testing.T, d *disk.Disk, c *cache.Cache, calls []call) {
	t.Helper()
	image, writes := d.Image(), d.Writes()
	if writes%2 == 0 { // at once, for calls that meet the power off would tell it of the loss
		d.Restart()
	}
	for range 2 {
		for _, k := range calls {
			k.of(c)
		}
		for n := -1; n <= d.Len(); n++ {
			c.Read(n)
			c.Stands(n)
			c.Flush(n)
			c.Drain(n)
			c.Put(n, fullOf(E), n, n+1)
			c.Put(n, fullOf(D))
			c.Flush(n)
			c.Mark(n, 1)
			c.Drop(n)
		}
		c.Put(0, fullOf(E))
		c.Sync()
		c.Dirty()
		c.Eligible()
		c.Edges()
		c.Landed()
		d.Restart()
	}
	if !slices.Equal(d.Image(), image) || d.Writes() != writes {
		t.Errorf("it writes, though it has lost its disk: %d writes, then %d", writes, d.Writes())
	}
	c = on(t, d) // another one, on the disk that was restarted, is as good as any
	put(t, c, 0, E)
	is(t, "Sync", c.Sync(), api.OK)
	has(t, d, writes+1, E)
}

func TestThePowerAtEachWrite(t *testing.T) { // P4.3, P4.4, P4.9, R3
	for seed := range uint32(25) {
		size := 3 + int(seed%5)
		calls := someCalls(steps(seed+500), size, 60, seed%2 == 0)
		left := 0
		for cutOff(t, calls, size, left) {
			if left++; left > 1000 {
				t.Fatal("the power goes though all that is put was written")
			}
		}
	}
}

// choices are ways to choose one of a list.
func choices(next func(int) int) []func(list []int) int {
	return []func(list []int) int{
		func(list []int) int { return list[0] },
		func(list []int) int { return list[len(list)-1] },
		func(list []int) int { return list[next(len(list))] },
		func(list []int) int { return list[next(len(list))] },
	}
}

func TestAnyOrderOfFlushes(t *testing.T) { // P4.10, P4.8
	const size = 9
	for seed := range uint32(40) {
		next := steps(seed + 900)
		calls := someCalls(next, size, 40, false)
		var last []int // what was put last, but of dropped ones
		for _, choose := range choices(next) {
			d, c := begin(t, size)
			m := newModel(size, -1)
			for _, k := range calls {
				k.of(c)
				k.ofModel(m)
			}
			last = slices.Clone(m.disk)
			for _, o := range m.dirty {
				last[o.n] = o.content
			}
			had := len(c.Dirty())
			for len(c.Dirty()) > 0 {
				some := c.Eligible()
				if len(some) == 0 {
					t.Fatalf("seed %d: nothing is eligible of %v", seed, c.Dirty())
				}
				n := choose(some)
				flush(t, c, n, true)
				if had--; had < 0 {
					t.Fatalf("seed %d: a sector is dirty again that was flushed", seed)
				}
			}
			if !slices.Equal(numbers(d), last) {
				t.Errorf("seed %d: %v, want %v", seed, numbers(d), last)
			}
			tells(t, c, nil, nil)
		}
		d, c := begin(t, size)
		for _, k := range calls {
			k.of(c)
		}
		is(t, "Sync", c.Sync(), api.OK)
		if !slices.Equal(numbers(d), last) {
			t.Errorf("seed %d: behind Sync %v, want %v", seed, numbers(d), last)
		}
		tells(t, c, nil, nil)
	}
}

func TestEachTagLandsOnce(t *testing.T) { // P4.11
	const size = 6
	for seed := range uint32(40) {
		_, c := begin(t, size)
		waits := map[int]int{} // sectors by tags that have not landed
		var got []int
		for _, k := range append(someCalls(steps(seed+1500), size, 120, false), call{kind: doSync}, call{kind: doLanded}) {
			if k.kind == doMark {
				waits[k.number] = k.n
			}
			if k.kind == doDrop && slices.Contains(c.Dirty(), k.n) {
				got = append(got, c.Landed()...)
				for _, tag := range got {
					delete(waits, tag)
				}
				for tag, n := range waits {
					if n == k.n {
						delete(waits, tag)
						got = append(got, -tag) // it went with the drop, and may not land
					}
				}
			}
			got = append(got, k.of(c).list...)
		}
		for i, tag := range got {
			if slices.Contains(got[:i], tag) || slices.Contains(got, -tag) {
				t.Fatalf("seed %d: tag %d landed again, or though it was dropped: %v", seed, tag, got)
			}
			delete(waits, max(tag, -tag))
		}
		if len(waits) > 0 {
			t.Fatalf("seed %d: tags that did not land: %v", seed, waits)
		}
	}
}
