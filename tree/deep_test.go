package tree_test

import (
	"testing"

	"breakwater/api"
)

// chain is directories 1 to n, each in the one ahead of it.
func chain(n int) drawn {
	x := drawn{n: nil}
	for i := 1; i < n; i++ {
		x[i] = []api.Slot{of(i+1, "d")}
	}
	return x
}

func TestAsDeepAsMayBe(t *testing.T) { // P14.1, P14.7: 512 directories in one another
	r := rigWith(t, 4096, 512, chain(512))
	r.noMake(512, "x", 2, 0, api.ErrSpaceInodes)
	r.noRename(1, "d", 512, "x", api.ErrTreeLoop)
	r.noRename(511, "d", 512, "x", api.ErrTreeLoop)
	r.noRename(256, "d", 512, "x", api.ErrTreeLoop)
	r.rename(256, "d", 1, "half") // 257 and what lies in it
	r.rename(1, "d", 512, "first")
	r.noRename(1, "half", 256, "x", api.ErrTreeLoop)
	r.list(1, aDir("half", 257))
	r.list(512, aDir("first", 2))
	r.list(256)
}

func TestARingAsLongAsMayBe(t *testing.T) { // P14.1: it is found, and New ends
	x := chain(512)
	x[1], x[512] = nil, []api.Slot{of(2, "d")}
	d, report := x.on(t, 4096, 512)
	noTree(t, "a ring of 511", d, report, api.ErrArg)
}

func TestManyEntriesDeepBelow(t *testing.T) { // P14.5: what shows all of them, each sector once, in short time
	r := rigWith(t, 4096, 512, chain(511))
	r.file(1, "f", 512)
	for k := range 99 {
		r.link(512, 412+k, "f")
	}
	r.unlink(1, "f")
	s, e := r.x.Files().Inode(512)
	if s.Links != 99 || e != api.OK {
		t.Errorf("Inode: %+v, %d", s, e)
	}
	ahead := map[int]int{}
	n := 0
	for _, edge := range r.x.Cache().Edges() {
		ahead[edge.Post]++
		if edge.Post == 512 {
			n = edge.Pre
		}
	}
	if ahead[512] != 1 || ahead[n] != 198+1 { // of each link its slot and its directory's inode; and the root's, whose slot it is
		t.Errorf("inode 512 waits for %d, the slot at %d for %d", ahead[512], n, ahead[n])
	}
}

func TestWhoTurnsInodes(t *testing.T) { // P14.2: nothing is promised any more, but that calls end
	for seed := range 200 {
		next := steps(uint32(seed))
		r := rigOf(t, 30, 5)
		r.dir(1, "a", 2)
		r.dir(2, "b", 3)
		r.file(3, "d", 4)
		r.x.Link(4, 1, "l")
		for range 12 {
			i := 1 + next(5)
			switch next(6) {
			case 0:
				r.x.Files().Free(i)
			case 1:
				r.x.Files().Put(i, api.Inode{Kind: next(3), Links: next(101)})
			case 2:
				s := slotSector(t, 1+next(5), "b")
				r.x.Files().Lay(i, 128, api.Block{Data: s})
			case 3:
				r.x.Cache().Put(i, spoilt())
			case 4:
				r.x.Cache().Drop(i)
			}
			r.x.Make(1+next(5), count(next(3)), 1+next(2), 0)
			r.x.Rename(1+next(5), []string{"a", "b", "d", "l"}[next(4)], 1+next(5), count(next(3)))
			r.x.Rename(1+next(5), count(next(3)), 1+next(5), "b")
			r.x.Unlink(1+next(5), []string{"a", "b", "d", "l"}[next(4)])
		}
		everyCall(r)
	}
}

func TestARingThatSomebodyMade(t *testing.T) { // P14.2: the way up to the root ends, though it leads there no more
	r := rigOf(t, 60, 8)
	r.dir(1, "d", 2)
	r.dir(2, "e", 3)
	r.file(1, "f", 4)
	r.is("Free", r.x.Files().Free(2), api.OK)
	r.dir(3, "x", 2)
	r.rmdir(1, "d") // so 2 lies in 3 alone, and 3 in 2
	r.link(4, 3, "g")
	r.unlink(1, "f")
	r.noRename(3, "x", 3, "y", api.ErrTreeLoop)
	r.dir(1, "z", 5)
	r.x.Rename(1, "z", 3, "z")
	everyCall(r)
}
