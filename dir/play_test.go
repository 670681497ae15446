package dir_test

import (
	"slices"
	"testing"

	"breakwater/api"
)

// The kinds of deeds that are played.
const (
	doSet   = iota
	doFlush // of a sector
	doSync
	doChurn // a file is made, written and freed: what it had is free later alone
	doWrite // the file 2 grows
)

// deed is one that is played on directories.
type deed struct {
	kind, d, k int
	s          api.Slot
	after      []int
}

// below does what is done without directories.
func (k deed) below(r *rig) api.Errno {
	switch k.kind {
	case doSync:
		return r.c.Sync()
	case doChurn:
		return k.churn(r)
	case doWrite:
		return r.f.Write(2, 128*k.k, []byte{1})
	}
	_, e := r.c.Flush(k.k)
	return e
}

func (k deed) churn(r *rig) api.Errno {
	i, e := r.s.TakeInode()
	if e != api.OK {
		return e
	}
	if e := r.f.Put(i, api.Inode{Kind: api.KindFile, Links: 1}); e != api.OK {
		return e
	}
	e = r.f.Write(i, 0, make([]byte, 128*k.k))
	if f := r.f.Free(i); f != api.OK {
		return f
	}
	return e
}

// of does it.
func (k deed) of(r *rig) api.Errno {
	if k.kind == doSet {
		return r.x.Set(k.d, k.k, k.s, k.after...)
	}
	return k.below(r)
}

// ofPlain does it with the plain one.
func (k deed) ofPlain(p *plain) api.Errno {
	if k.kind == doSet {
		return p.set(k.d, k.k, k.s, k.after)
	}
	return k.below(p.rig)
}

// names and slots of which few are played, so that they meet.
func playedNames() []string { return []string{"a", "b", "c", "d", "e"} }
func playedSlots() []int {
	return []int{0, 1, 2, 3, 4, 5, 0, 1, 2, 3, 11, 12, 13, 43, 44, 45, 75, 76, 77, 108}
}

// some is a deed; if once, a name is set only when no slot has it.
func some(next func(int) int, r *rig, once bool) deed {
	switch kind := next(16); {
	case kind < 9:
		k := deed{kind: doSet, d: 1 + 2*next(2), k: playedSlots()[next(len(playedSlots()))]}
		name := playedNames()[next(5)]
		_, _, e := r.x.Find(k.d, name)
		if next(4) > 0 && (!once || e == api.ErrDirNone) {
			k.s = of(1+next(512), name)
		}
		for range next(4) {
			k.after = append(k.after, next(r.d.Len()))
		}
		return k
	case kind < 13:
		if list := r.c.Eligible(); len(list) > 0 {
			return deed{kind: doFlush, k: list[next(len(list))]}
		}
		return deed{kind: doFlush, k: next(r.d.Len())}
	case kind == 13:
		return deed{kind: doChurn, k: 1 + next(3)}
	case kind == 14 && next(3) == 0:
		return deed{kind: doSync}
	}
	return deed{kind: doWrite, k: next(4)}
}

// twoDirectories lets inode 3 be one, too.
func twoDirectories(r *rig) *rig {
	r.Helper()
	r.is("second", second(r), api.OK)
	r.sync()
	return r
}

func TestPlainAndNot(t *testing.T) { // P11.3 to P11.7: as the words say, deed by deed
	for seed := range 50 {
		next := steps(uint32(seed))
		sectors := 16 + next(50)
		r := twoDirectories(rigOf(t, sectors, 6))
		p := plainOf(t, sectors, 6)
		twoDirectories(p.rig)
		for at := range 100 {
			k := some(next, r, false)
			got, want := k.of(r), k.ofPlain(p)
			if got != want || !r.state().equals(p.state()) {
				t.Fatalf("seed %d, deed %d, %+v: %d, want %d; what became of it is another", seed, at, k, got, want)
			}
			alike(t, r, p)
			if t.Failed() {
				t.Fatalf("seed %d, deed %d, %+v", seed, at, k)
			}
		}
	}
}

// alike holds all questions to the plain one's answers.
func alike(t *testing.T, r *rig, p *plain) {
	t.Helper()
	for _, d := range []int{1, 3} {
		list := slotsOf(p.read, d)
		r.slots(d, list...)
		for _, name := range append(playedNames(), "") {
			k, i, e := r.x.Find(d, name)
			if m, j, f := findIn(list, name); k != m || i != j || e != f {
				t.Errorf("Find(%d, %q): %d, %d, %d; want %d, %d, %d", d, name, k, i, e, m, j, f)
			}
		}
		k, n, e := r.x.Place(d)
		if m, o, f := p.place(d, list); k != m || n != o || e != f {
			t.Errorf("Place(%d): %d, %d, %d; want %d, %d, %d", d, k, n, e, m, o, f)
		}
		for _, k := range append(playedSlots(), 6, 14, 46, 78, 107, 109, 1067) {
			r.sector(d, k, sectorOf(p.read, d, k))
			r.visible(d, k, p.visible(d, k)...)
		}
	}
}

// seeing looks at an image.
func seeing(image []api.Sector) look { return func(n int) api.Sector { return image[n] } }

func TestWhatIsVisibleStandsOnTheDisk(t *testing.T) { // P11.7: where it tells none, the slot is found there from the inode on
	seen := 0
	for seed := range 40 {
		next := steps(uint32(1000 + seed))
		r := twoDirectories(rigOf(t, 60, 6))
		for range 80 {
			some(next, r, false).of(r)
			for _, d := range []int{1, 3} {
				list, _ := r.x.Slots(d)
				disk := slotsOf(seeing(r.d.Image()), d)
				for k, s := range list {
					dirty, e := r.x.Visible(d, k)
					if len(dirty) > 0 || e != api.OK {
						continue
					}
					seen++
					if k >= len(disk) || disk[k] != s {
						t.Fatalf("seed %d, directory %d: slot %d is %+v, and not on the disk: %+v", seed, d, k, s, disk)
					}
				}
			}
		}
	}
	if seen == 0 {
		t.Error("none was seen")
	}
}

func TestWhatWasSetLast(t *testing.T) { // P11.8: Find tells it
	for seed := range 40 {
		next := steps(uint32(2000 + seed))
		r := twoDirectories(rigOf(t, 200, 6))
		last := map[int]map[int]api.Slot{1: {}, 3: {}} // by directories and slots
		for range 60 {
			k := some(next, r, true)
			r.is("a deed", k.of(r), api.OK)
			if k.kind != doSet {
				continue
			}
			last[k.d][k.k] = k.s
			left := playedNames()
			for slot, s := range last[k.d] {
				if s != none {
					r.found(k.d, s.Name, slot, s.Ino)
					left = slices.DeleteFunc(left, func(name string) bool { return name == s.Name })
				}
			}
			r.missing(k.d, left...)
		}
	}
}

func TestWhatPlaceTells(t *testing.T) { // P11.8: it is empty, and a Set there takes just as many sectors
	for seed := range 40 {
		next := steps(uint32(3000 + seed))
		r := twoDirectories(rigOf(t, 400, 6))
		for range 30 {
			r.is("a deed", some(next, r, false).of(r), api.OK)
		}
		for range 100 {
			d := 1 + 2*next(2)
			k, need, e := r.x.Place(d)
			r.is("Place", e, api.OK)
			if list, _ := r.x.Slots(d); k > len(list) || k < len(list) && list[k] != none || slices.Contains(list[:k], none) {
				t.Fatalf("seed %d: Place(%d) is %d, the slots are %+v", seed, d, k, list)
			}
			before := r.f.Room().Blocks
			r.set(d, k, of(1+next(512), "n"))
			if taken := before - r.f.Room().Blocks; taken != need {
				t.Fatalf("seed %d: slot %d has taken %d, not %d", seed, k, taken, need)
			}
		}
	}
}
