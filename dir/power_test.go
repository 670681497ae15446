package dir_test

import (
	"testing"

	"breakwater/api"
)

// told is what was set at a place at some time.
type told map[api.Place]map[api.Slot]bool

// note lets a slot be one that was set.
func (x told) note(p api.Place, s api.Slot) {
	if x[p] == nil {
		x[p] = map[api.Slot]bool{}
	}
	x[p][s] = true
}

// sound holds an image to having each name once in a directory, and nothing that was never set.
func (x told) sound(t *testing.T, image []api.Sector) {
	t.Helper()
	for _, d := range []int{1, 3} {
		seen := map[string]int{}
		for k, s := range slotsOf(seeing(image), d) {
			if s == none {
				continue
			}
			seen[s.Name]++
			if seen[s.Name] > 1 {
				t.Errorf("directory %d: %q stands twice: %+v", d, s.Name, slotsOf(seeing(image), d))
			}
			if !x[api.Place{Dir: d, Slot: k}][s] {
				t.Errorf("directory %d, slot %d: %+v was never set", d, k, s)
			}
		}
		ways(t, image, d)
	}
}

// ways holds the sectors on the ways of a directory's blocks to being data sectors, and the blocks' to slots.
func ways(t *testing.T, image []api.Sector, d int) {
	t.Helper()
	for k := range number(image[d], 4) / 128 {
		list := way(seeing(image), d, k)
		for _, n := range list[1:] {
			if n != 0 && (n <= 6 || n >= len(image)) {
				t.Errorf("directory %d, slot %d: the way %v", d, k, list)
			}
		}
		if _, not := slotOf(image[list[len(list)-1]]); not && list[len(list)-1] != 0 {
			t.Errorf("directory %d, slot %d: no slot stands at %d", d, k, list[len(list)-1])
		}
	}
}

// play plays deeds till the power goes, if it goes behind so many writes; it tells how many were done.
func play(t *testing.T, seed, armed int) int {
	t.Helper()
	next := steps(uint32(seed))
	r := twoDirectories(rigOf(t, 26+next(30), 6))
	first := r.d.Writes()
	if armed >= 0 {
		r.is("Arm", r.d.Arm(armed), api.OK)
	}
	x := told{}
	for range 60 {
		k := some(next, r, true)
		if k.kind == doSet {
			x.note(api.Place{Dir: k.d, Slot: k.k}, k.s)
		}
		e := k.of(r)
		x.sound(t, r.d.Image())
		if e == api.ErrDiskDown {
			if n := r.d.Writes() - first; n != armed {
				t.Errorf("%d writes, armed at %d", n, armed)
			}
			lost(t, r)
			return armed
		}
	}
	return r.d.Writes() - first
}

// lost holds what lies on a lost disk to ending and writing nothing, also when the disk is restarted.
func lost(t *testing.T, r *rig) {
	t.Helper()
	r.d.Restart()
	n := r.d.Writes()
	for _, d := range []int{1, 3, 2, -1} {
		for _, k := range []int{0, 12, 44, 1068} {
			r.x.Find(d, "a")
			r.x.Slots(d)
			r.x.Place(d)
			r.x.Sector(d, k)
			r.x.Visible(d, k)
			r.x.Set(d, k, of(2, "z"))
			r.x.Set(d, k, none)
		}
	}
	if r.d.Writes() != n {
		t.Error("something was written behind the loss of power")
	}
}

func TestThePowerGoesAtAnyWrite(t *testing.T) { // P11.8: whatever is flushed, and when, no name stands twice
	for seed := range 25 {
		writes := play(t, seed, -1)
		if writes < 5 {
			t.Errorf("seed %d: %d writes", seed, writes)
		}
		for armed := range writes {
			play(t, seed, armed)
			if t.Failed() {
				t.Fatalf("seed %d, behind %d writes", seed, armed)
			}
		}
	}
}

func TestANameThatMoves(t *testing.T) { // P11.8: with the power going at every write of every order, it stands once, or nowhere
	for seed := range 30 {
		next := steps(uint32(4000 + seed))
		r := with(t, 40, of(2, "a"), of(3, "b"), of(4, "c"))
		r.set(1, 0, none)
		r.set(1, 3, of(2, "a"))
		r.set(1, 1, of(3, "d"))
		r.set(1, 0, of(3, "b"))
		for list := r.c.Eligible(); len(list) > 0; list = r.c.Eligible() {
			r.flush(list[next(len(list))])
			seen := map[string]int{}
			for _, s := range slotsOf(seeing(r.d.Image()), 1) {
				seen[s.Name]++
			}
			if seen["a"] > 1 || seen["b"] > 1 || seen["c"] != 1 {
				t.Fatalf("seed %d: %v", seed, seen)
			}
		}
		r.slots(1, of(3, "b"), of(3, "d"), of(4, "c"), of(2, "a"))
	}
}

func TestThePowerIsOff(t *testing.T) { // R3: what the disk tells goes up
	r := with(t, 40, of(2, "a"))
	r.is("Arm", r.d.Arm(0), api.OK)
	r.set(1, 0, of(2, "b"))
	r.is("Sync", r.c.Sync(), api.ErrDiskDown)
	r.is("Set", r.x.Set(1, 0, of(2, "c")), api.ErrDiskDown)
	if list, e := r.x.Slots(1); len(list) != 0 || e != api.ErrDiskDown {
		t.Errorf("Slots: %v, %d", list, e)
	}
	lost(t, r)
	r = rigOn(t, r.d, 4, []int{1, 2}, []int{5})
	r.slots(1, of(2, "a"))
}

func TestSetMeetsALossOfPower(t *testing.T) { // P11.5, R3: within Lay, where a ring is to be cleared
	r := with(t, 40, of(2, "a"), of(3, "b"))
	r.set(1, 0, none)
	r.set(1, 1, of(2, "a"))
	r.is("Arm", r.d.Arm(0), api.OK)
	r.is("Set", r.x.Set(1, 0, of(3, "b")), api.ErrDiskDown)
	lost(t, r)
	r = rigOn(t, r.d, 4, []int{1, 2}, []int{5, 6})
	r.slots(1, of(2, "a"), of(3, "b"))
}

func TestStandsMeetsALossOfPower(t *testing.T) { // P11.5, R3: which name stands can not be told then
	r := with(t, 40, of(2, "a"), of(3, "b"))
	for _, n := range []int{1, 5, 6} { // all that is read is dirty
		s, _ := r.c.Read(n)
		r.is("cache.Put", r.c.Put(n, s), api.OK)
	}
	r.is("Arm", r.d.Arm(0), api.OK)
	write := r.d.Write(39, api.Sector{})
	r.is("disk.Write", write, api.ErrDiskDown)
	r.is("Set", r.x.Set(1, 0, of(3, "c")), api.ErrDiskDown)
	lost(t, r)
}
