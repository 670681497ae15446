package fs_test

import (
	"bytes"
	"fmt"
	"maps"
	"slices"
	"testing"

	"breakwater/api"
	"breakwater/fs"
	"breakwater/layout"
)

// name is an entry by makings: where it stands, and what it names. (Each is made at a time of its own.)
type name struct {
	in   int
	name string
	of   int
}

// names are all entries, and the inodes that they name.
func (m *memory) entries() map[name]int {
	all := map[name]int{}
	for _, n := range m.nodes {
		for _, s := range n.slots {
			if s.Ino != 0 {
				all[name{n.made, s.Name, m.nodes[s.Ino].made}] = s.Ino
			}
		}
	}
	return all
}

// bytesOf is a state of a file.
type bytesOf struct {
	size   int
	blocks map[int]api.Sector
}

// history is what was since the last barrier: all trees, and of each file, by its making, its states since its own last one.
type history struct {
	trees []map[name]int
	files map[int][]bytesOf
}

func historyOf(m *memory) *history {
	h := &history{}
	h.barrier(m)
	return h
}

// barrier lets all that was be over.
func (h *history) barrier(m *memory) {
	h.trees = []map[name]int{m.entries()}
	h.files = map[int][]bytesOf{}
	for _, n := range m.nodes {
		h.noteFile(n)
	}
}

// noteFile notes a file's state, if it is one.
func (h *history) noteFile(n *node) {
	if n != nil && n.kind == api.KindFile {
		h.files[n.made] = append(h.files[n.made], bytesOf{n.size, maps.Clone(n.blocks)})
	}
}

// mark is what is to be known of an operation ahead of it.
type mark struct {
	node   *node // that Path leads to
	size   int   // its own
	moving bool  // it is a directory, and is renamed to another place
}

func markOf(m *memory, o api.Op) mark {
	names, to, e := formed(o)
	if e != api.OK {
		return mark{}
	}
	i, e := m.walk(names)
	if e != api.OK {
		return mark{}
	}
	n := m.nodes[i]
	moving := o.Kind == api.OpRename && n.kind == api.KindDir && !slices.Equal(names, to)
	return mark{n, n.size, moving}
}

// note notes the tree behind an operation, as far as it was answered.
func (h *history) note(m *memory, o api.Op, k mark, code api.Errno) {
	h.trees = append(h.trees, m.entries())
	if o.Kind == api.OpCreate {
		if names, _, e := formed(o); e == api.OK {
			if i, e := m.walk(names); e == api.OK && m.nodes[i].made == o.Made {
				h.noteFile(m.nodes[i])
			}
		}
	}
	if code == api.OK && (o.Kind == api.OpSync || k.moving) {
		h.barrier(m)
		return
	}
	if k.node == nil {
		return
	}
	own := o.Kind == api.OpFsync || o.Kind == api.OpTruncate && k.node.size < k.size
	if code == api.OK && own {
		delete(h.files, k.node.made)
	}
	if own || o.Kind == api.OpTruncate || o.Kind == api.OpWrite {
		h.noteFile(k.node)
	}
}

// wrongTree tells what a tree has that none had, or has not that all had (W3); nothing, if there is no such thing.
func (h *history) wrongTree(got map[name]int) string {
	in := func(n name) int { // how many trees have it
		return len(slices.DeleteFunc(slices.Clone(h.trees), func(one map[name]int) bool { return one[n] == 0 }))
	}
	found := map[int]int{}
	for n, i := range got {
		found[n.of]++
		if !slices.ContainsFunc(h.trees, func(one map[name]int) bool { return one[n] == i }) {
			return fmt.Sprintf("%+v is there, inode %d", n, i)
		}
	}
	kept := map[int]int{} // makings, by the trees that have an entry of them
	for _, one := range h.trees {
		seen := map[int]int{}
		for n := range one {
			seen[n.of]++
			if _, is := got[n]; !is && in(n) == len(h.trees) {
				return fmt.Sprintf("%+v is not there", n)
			}
		}
		for made := range seen {
			kept[made]++
		}
	}
	for made, trees := range kept {
		if trees == len(h.trees) && found[made] == 0 {
			return fmt.Sprintf("what was made at %d has no entry", made)
		}
	}
	return ""
}

// wrongBytes tells what of a file is of no state that it had (W4).
func (h *history) wrongBytes(n *node) string {
	states := h.files[n.made]
	if !slices.ContainsFunc(states, func(s bytesOf) bool { return s.size == n.size }) {
		return fmt.Sprintf("the file made at %d has the size %d", n.made, n.size)
	}
	all := n.bytes()
	for at := 0; at < len(all); at += 128 {
		got := all[at:min(at+128, len(all))]
		if !slices.ContainsFunc(states, func(s bytesOf) bool {
			b := s.blocks[at/128] // zeros, of a hole, and behind the end
			return bytes.Equal(got, b[:len(got)])
		}) {
			return fmt.Sprintf("the file made at %d has at %d: %x", n.made, at, got)
		}
	}
	return ""
}

// memoryOn is what a disk has that was put right.
func memoryOn(t *testing.T, on image) *memory {
	t.Helper()
	m := memoryOf(len(on), on.inodes())
	clear(m.nodes)
	for i := 1; i <= m.inodes; i++ {
		x, e := layout.ReadInode(on[i])
		if e != api.OK {
			t.Fatalf("inode %d is none", i)
		}
		if x.Kind == api.KindFree {
			continue
		}
		n := &node{kind: x.Kind, made: x.Made, size: x.Size, blocks: map[int]api.Sector{}}
		there, _ := on.blocks(x)
		for k, b := range there {
			n.blocks[k] = on[b]
		}
		if x.Kind == api.KindDir {
			slots, _ := on.slots(x)
			n.slots = make([]api.Slot, x.Size/128)
			for k, s := range slots {
				n.slots[k] = s
			}
		}
		m.nodes[i] = n
	}
	return m
}

// game is a file system that is played on, and what is known of it.
type game struct {
	*rig
	m      *memory
	h      *history
	player *player
}

func gameOf(t *testing.T, seed int) *game {
	t.Helper()
	size := sizes()[seed%len(sizes())]
	r, m := rigOf(t, size.sectors, size.inodes), memoryOf(size.sectors, size.inodes)
	return &game{r, m, historyOf(m), &player{next: steps(uint32(9000 + seed)), names: size.names}}
}

// step does one operation; it tells whether the power is still there.
func (g *game) step() bool {
	g.Helper()
	o := g.player.some(g.m, g.f)
	k := markOf(g.m, o)
	a, want := g.f.Do(o), g.m.do(o)
	want.Landed = a.Landed
	if a.Code != api.ErrDiskDown && !equal(a, want) {
		g.Fatalf("%s: %+v, want %+v", say(o), a, want)
	}
	g.h.note(g.m, o, k, a.Code)
	if why := unsound(g.d.Image(), a.Code == api.ErrDiskDown && k.moving); why != "" {
		g.Fatalf("behind %s: %s", say(o), why)
	}
	if a.Code == api.ErrDiskDown {
		if !equal(a, api.Answer{Code: api.ErrDiskDown}) || !g.d.Down() {
			g.Fatalf("%s: %+v", say(o), a)
		}
		g.isDead()
	}
	return a.Code != api.ErrDiskDown
}

// mountAgain mounts till the power lasts, and holds what is found to what was. cuts are how many writes the power lasts each time.
func (g *game) mountAgain(cuts ...int) {
	g.Helper()
	for _, n := range cuts {
		g.arm(n)
		f, r, e := fs.Mount(g.d)
		if e == api.OK {
			break
		}
		if f != nil || e != api.ErrDiskDown || len(r.Want)+len(r.Write)+len(r.Inodes)+len(r.Blocks) > 0 {
			g.Fatalf("Mount: %d", e)
		}
		g.d.Restart()
	}
	g.rig = g.rig.again()
	m := memoryOn(g.T, g.d.Image())
	if why := g.h.wrongTree(m.entries()); why != "" {
		g.Fatalf("behind the loss of power: %s", why)
	}
	for _, n := range m.nodes {
		if n.kind == api.KindFile {
			if why := g.h.wrongBytes(n); why != "" {
				g.Fatalf("behind the loss of power: %s", why)
			}
		}
	}
	g.m = m
	g.holds(m) // Links are the entries, too
	g.h.barrier(m)
}

func TestThePowerGoesAtAnyWrite(t *testing.T) { // P15.3, P15.10, W2 to W4: what stands on the disk is sound; a Mount finds what was, or became since, and bytes of the same file
	for seed := range 42 {
		whole := gameOf(t, seed)
		first := whole.d.Writes()
		for range 60 {
			whole.step()
		}
		for armed := range whole.d.Writes() - first {
			g := gameOf(t, seed)
			g.arm(armed)
			for g.step() {
			}
			g.mountAgain()
			if t.Failed() {
				t.Fatalf("seed %d, behind %d writes", seed, armed)
			}
		}
	}
}

func TestThePowerGoesAgainAndAgain(t *testing.T) { // W2 to W4: also within a Mount, and what was found is played on
	for seed := range 120 {
		g := gameOf(t, seed)
		next := steps(uint32(seed))
		for range 12 {
			g.arm(next(25))
			for range 60 {
				if !g.step() {
					break
				}
			}
			if g.d.Restart(); next(4) > 0 { // else it was not the power that ended it
				g.mountAgain(next(3), next(2))
			} else {
				g.mountAgain()
			}
		}
	}
}
