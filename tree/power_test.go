package tree_test

import (
	"fmt"
	"slices"
	"testing"

	"breakwater/api"
	"breakwater/fsck"
)

// history are the trees since the last barrier, by their entries.
type history []map[name]int

// note notes the tree behind a deed; if it was a barrier, the ones ahead of it are over.
func (h *history) note(m *memory, barrier bool) {
	if barrier {
		*h = nil
	}
	*h = append(*h, m.names())
}

// wrong tells what a tree has that none had, or has not that all had; nothing, if there is no such thing.
func (h history) wrong(got map[name]int) string {
	for n, i := range got {
		if !slices.ContainsFunc(h, func(one map[name]int) bool { return one[n] == i }) {
			return fmt.Sprintf("%+v is there, inode %d", n, i)
		}
	}
	kept, lost := map[int]int{}, map[int]int{} // makings, by the trees that have an entry of them
	for _, one := range h {
		seen := map[int]int{}
		for n := range one {
			seen[n.of]++
			if _, is := got[n]; !is && !slices.ContainsFunc(h, func(one map[name]int) bool { return one[n] == 0 }) {
				return fmt.Sprintf("%+v is not there", n)
			}
		}
		for made := range seen {
			kept[made]++
		}
	}
	for n := range got {
		lost[n.of]++
	}
	for made, trees := range kept {
		if trees == len(h) && lost[made] == 0 {
			return fmt.Sprintf("what was made at %d has no entry", made)
		}
	}
	return ""
}

// namesOn are the entries of a tree, found from its root on.
func namesOn(r *rig) map[name]int {
	r.Helper()
	all := map[name]int{}
	queue := []int{1}
	for at := 0; at < len(queue); at++ {
		d, e := r.x.Stat(queue[at])
		r.is("Stat", e, api.OK)
		list, e := r.x.List(d.Ino)
		r.is("List", e, api.OK)
		for _, n := range list {
			x, e := r.x.Stat(n.Ino)
			r.is("Stat", e, api.OK)
			all[name{d.Made, n.Name, x.Made}] = n.Ino
			if n.Kind == api.KindDir {
				queue = append(queue, n.Ino)
			}
		}
	}
	return all
}

// isMove tells whether a deed, that was answered OK, is a directory's rename to another place.
func (k deed) isMove(m *memory) bool {
	if k.kind != doRename || k.d == k.to && k.name == k.other {
		return false
	}
	s, e := m.find(k.d, k.name)
	return e == api.OK && m.nodes[s.Ino].kind == api.KindDir
}

// play plays deeds till the power goes, if it goes behind so many writes; it tells how many were done.
func play(t *testing.T, seed, armed int) int {
	t.Helper()
	size := sizes()[seed%len(sizes())]
	p := &player{steps(uint32(9000 + seed)), size.names, 0}
	r, m := rigOf(t, size.sectors, size.inodes), memoryOf(size.sectors, size.inodes)
	first := r.d.Writes()
	if armed >= 0 {
		r.is("Arm", r.d.Arm(armed), api.OK)
	}
	h := history{m.names()}
	for range 70 {
		k := p.some(m, r.x.Cache())
		moving := k.isMove(m)
		_, e := k.of(r)
		_, f := k.ofMemory(m)
		if e != f && e != api.ErrDiskDown {
			t.Fatalf("seed %d, %+v: %d, want %d", seed, k, e, f)
		}
		barrier := e == api.OK && (k.kind == doSync || moving)
		h.note(m, barrier)
		if e == api.ErrDiskDown {
			if n := r.d.Writes() - first; n != armed {
				t.Errorf("%d writes, armed at %d", n, armed)
			}
			again(t, r, h, moving)
			return armed
		}
		if why := unsound(r.d.Image(), false); why != "" {
			t.Fatalf("seed %d, behind %+v: %s", seed, k, why)
		}
	}
	return r.d.Writes() - first
}

// again holds a disk whose power went to being sound, and to a tree that is one of those in history, or lies between them.
func again(t *testing.T, r *rig, h history, moving bool) {
	t.Helper()
	if why := unsound(r.d.Image(), moving); why != "" {
		t.Errorf("on the disk: %s", why)
		return
	}
	lost(t, r)
	report, e := fsck.Run(r.d)
	r.is("fsck.Run", e, api.OK)
	r = rigOn(t, r.d, report.Inodes, report.Blocks)
	if why := h.wrong(namesOn(r)); why != "" {
		t.Errorf("behind the loss of power: %s", why)
	}
	ownBytes(r, report.Inodes)
}

// ownBytes holds files to bytes that were written to them, or zeros.
func ownBytes(r *rig, inodes []int) {
	r.Helper()
	for _, i := range inodes {
		x, e := r.x.Stat(i)
		if e != api.OK || x.Kind != api.KindFile {
			continue
		}
		data, e := r.x.Files().Read(i, 0, x.Size)
		r.is("Read", e, api.OK)
		for _, b := range data {
			if b != 0 && b != fill(x.Made)[0] {
				r.Errorf("the file made at %d has the byte %d", x.Made, b)
				break
			}
		}
	}
}

// lost holds what lies on a lost disk to ending and writing nothing, also when the disk is restarted.
func lost(t *testing.T, r *rig) {
	t.Helper()
	r.d.Restart()
	n := r.d.Writes()
	for d := range 6 {
		for k := range 3 {
			r.x.Make(d, count(k), 1+k%2, 0)
			r.x.Make(d, "new", 1+k%2, 0)
			r.x.Link(k+2, d, count(k+3))
			r.x.Rename(d, count(k), k+1, count(k+5))
			r.x.Unlink(d, count(k))
			r.x.Rmdir(d, count(k))
			r.x.Find(d, count(k))
		}
		r.x.List(d)
		r.x.Stat(d)
	}
	r.x.Cache().Sync()
	r.x.Files().Room()
	if r.d.Writes() != n {
		t.Error("something was written behind the loss of power")
	}
}

func TestThePowerGoesAtAnyWrite(t *testing.T) { // P14.8, W3: what can be reached is sound, and is what was there, or was made since
	for seed := range 48 {
		writes := play(t, seed, -1)
		if writes < 5 {
			t.Errorf("seed %d: %d writes", seed, writes)
		}
		for armed := range writes {
			play(t, seed, armed)
			if t.Failed() {
				t.Fatalf("seed %d, behind %d writes", seed, armed)
			}
		}
	}
}
