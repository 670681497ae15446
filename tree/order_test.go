package tree_test

import (
	"testing"

	"breakwater/api"
	"breakwater/layout"
)

// everyOrder lets what is dirty land in all orders that may be, and holds what can be reached on the disk from the root to being sound, and to a check of its own, behind each landing.
func everyOrder(t *testing.T, begin func() *rig, check func(names map[string]int)) {
	t.Helper()
	seen := 0
	var further func(landed []int)
	further = func(landed []int) {
		r := begin()
		r.flush(landed...)
		if why := unsound(r.d.Image(), false); why != "" {
			t.Errorf("behind %v: %s", landed, why)
		}
		check(reached(r.d.Image()))
		seen++
		if t.Failed() {
			t.Fatalf("when %v had landed", landed)
		}
		for _, n := range r.x.Cache().Eligible() {
			further(append(landed[:len(landed):len(landed)], n))
		}
	}
	further(nil)
	if seen < 3 {
		t.Errorf("%d orders", seen)
	}
}

// reached are the paths that lead somewhere on a disk, with their inodes.
func reached(m image) map[string]int {
	all := map[string]int{}
	var down func(d int, path string)
	down = func(d int, path string) {
		x, _ := layout.ReadInode(m[d])
		if x.Kind != api.KindDir {
			return
		}
		slots, _ := m.slots(x)
		for _, s := range slots {
			all[path+"/"+s.Name] = s.Ino
			down(s.Ino, path+"/"+s.Name)
		}
	}
	down(1, "")
	return all
}
