package space_test

import (
	"testing"

	"breakwater/api"
	"breakwater/space"
)

// steps answers numbers below a limit, the same ones in every run.
func steps(seed uint32) func(limit int) int {
	return func(limit int) int {
		seed = seed*1664525 + 1013904223
		return int(seed>>8) % limit
	}
}

// tell makes a call on both, and holds the one's answer, and what it tells then, to the other's.
func (b both) tell(t *testing.T, c call) {
	t.Helper()
	got, gotError := c.ask(b.s)
	want, wantError := c.ask(b.p)
	if got != want || gotError != wantError {
		t.Errorf("%s: %d, %d, want %d, %d", c.name, got, gotError, want, wantError)
	}
	if r := b.s.Room(); r != b.p.Room() {
		t.Errorf("behind %s, %d: Room: %+v, want %+v", c.name, got, r, b.p.Room())
	}
}

// agree holds what a space tells of inodes to the plain one.
func (b both) agree(t *testing.T) {
	t.Helper()
	for i := -2; i < len(b.p.what)+2; i++ {
		if b.s.Used(i) != b.p.Used(i) {
			t.Errorf("Used(%d): %v", i, b.s.Used(i))
		}
	}
}

// end holds whatever is free, and whatever is free later, to the plain one.
func (b both) end(t *testing.T) {
	t.Helper()
	x := b.p.x
	first := x.Inodes + 1
	empties(t, b.s, x, b.p.are(free, 1, first), b.p.are(free, first, x.Sectors), b.p.are(freeLater, first, x.Sectors))
}

// play makes calls, and stops at the first that is answered otherwise than by the plain one.
func play(t *testing.T, x api.Super, inodes, blocks []int, calls []call) {
	t.Helper()
	b := both{begin(t, x, inodes, blocks), newPlain(x, inodes, blocks)}
	for i, c := range calls {
		b.tell(t, c)
		b.agree(t)
		if t.Failed() {
			t.Fatalf("%v, %v, %v: call %d, %s", x, inodes, blocks, i, c.name)
		}
	}
	b.end(t)
	if t.Failed() {
		names := make([]string, 0, len(calls))
		for _, c := range calls {
			names = append(names, c.name)
		}
		t.Fatalf("%v, %v, %v: behind %v", x, inodes, blocks, names)
	}
}

func TestAllShortOrders(t *testing.T) { // P8.1 to P8.6, R3: whatever is called, in all orders of five calls
	x := api.Super{Sectors: 8, Inodes: 5} // the data sectors are 6 and 7
	all := []call{takeBlockCall(), takeInodeCall(), freeInodeCall(2), freeInodeCall(1), laterCall(6), laterCall(7), landedCall(6), landedCall(7, 6, 7), landedCall(6, 5)}
	orders := 1
	for range 5 {
		orders *= len(all)
	}
	for order := range orders {
		var calls []call
		for left := order; len(calls) < 5; left /= len(all) {
			calls = append(calls, all[left%len(all)])
		}
		play(t, x, []int{1, 3, 4}, []int{6}, calls)
	}
}

// someOf are some of the numbers from one on and ahead of another, in some order, each once.
func someOf(next func(int) int, from, end int) []int {
	share := next(5)
	var list []int
	for i := from; i < end; i++ {
		if next(4) < share {
			at := next(len(list) + 1)
			list = append(list, i)
			list[at], list[len(list)-1] = list[len(list)-1], list[at]
		}
	}
	return list
}

// anyCall is some call, of numbers that mostly are inodes or data sectors.
func anyCall(next func(int) int, x api.Super) call {
	number := next(x.Sectors+6) - 3
	if next(20) == 0 {
		some := append(noInodes(x), noBlocks(x)...)
		number = some[next(len(some))]
	}
	block := x.Inodes + 1 + next(x.Sectors-x.Inodes-1)
	switch next(8) {
	case 0, 1:
		return takeBlockCall()
	case 2:
		return takeInodeCall()
	case 3:
		return freeInodeCall(min(number, 1+next(x.Inodes+1)))
	case 4:
		return laterCall(block)
	case 5:
		return laterCall(number)
	case 6:
		return landedCall(block, x.Inodes+1+next(x.Sectors-x.Inodes-1), block)
	}
	return landedCall(block, number)
}

func TestMixedOrders(t *testing.T) { // P8.1 to P8.6
	for _, x := range []api.Super{{Sectors: 8, Inodes: 1}, {Sectors: 8, Inodes: 6}, small(), {Sectors: 70, Inodes: 3}, {Sectors: 140, Inodes: 66}} {
		for seed := range uint32(25) {
			next := steps(seed + uint32(x.Sectors)*1000)
			inodes, blocks := someOf(next, 1, x.Inodes+1), someOf(next, x.Inodes+1, x.Sectors)
			var calls []call
			for range 3*x.Sectors + 20 {
				calls = append(calls, anyCall(next, x))
			}
			play(t, x, inodes, blocks, calls)
		}
	}
}

func TestAGreatSpace(t *testing.T) { // P8.1 to P8.6, as great as may be
	x := api.Super{Sectors: 4096, Inodes: 512}
	next := steps(9)
	b := both{begin(t, x, nil, nil), newPlain(x, nil, nil)}
	for range 3583 + 1 {
		b.tell(t, takeBlockCall())
	}
	for range 3000 {
		b.tell(t, anyCall(next, x))
	}
	b.agree(t)
	b.end(t)
}

// outside is what one knows of a space who has only seen its answers.
type outside struct {
	x      api.Super
	has    map[int]int // data sectors in use
	gone   map[int]int // told to Later, and to no Landed since
	inodes map[int]int // in use, the root too
}

func newOutside(x api.Super, inodes, blocks []int) *outside {
	o := &outside{x: x, has: map[int]int{}, gone: map[int]int{}, inodes: map[int]int{1: 1}}
	for _, i := range inodes {
		o.inodes[i] = 1
	}
	for _, b := range blocks {
		o.has[b] = 1
	}
	return o
}

// sums holds Room and what is in use together to all that there is.
func (o *outside) sums(t *testing.T, s *space.Space) {
	t.Helper()
	r := s.Room()
	if r.Blocks+len(o.has) != o.x.Sectors-o.x.Inodes-1 || r.Later != len(o.gone) || r.Inodes+len(o.inodes) != o.x.Inodes {
		t.Errorf("Room: %+v; in use are %d sectors and %d inodes, gone %d", r, len(o.has), len(o.inodes), len(o.gone))
	}
	n := 0
	for i := range o.x.Sectors + 1 {
		if s.Used(i) {
			n++
		}
	}
	if n+r.Inodes != o.x.Inodes {
		t.Errorf("%d inodes are in use, %d free", n, r.Inodes)
	}
}

// take takes a sector, if Room says that there is one at once, and only then.
func (o *outside) take(t *testing.T, s *space.Space) {
	t.Helper()
	r := s.Room()
	b, e := s.TakeBlock()
	if (r.Blocks > r.Later) != (e == api.OK) {
		t.Errorf("Room: %+v, but TakeBlock: %d, %d", r, b, e)
	}
	if e != api.OK {
		return
	}
	if o.has[b] != 0 || o.gone[b] != 0 || b <= o.x.Inodes || b >= o.x.Sectors {
		t.Errorf("TakeBlock gave %d: in use %d, gone %d", b, o.has[b], o.gone[b])
	}
	o.has[b] = 1
}

func (o *outside) later(t *testing.T, s *space.Space, b int) {
	t.Helper()
	if e := s.Later(b); (e == api.OK) != (o.has[b] != 0) {
		t.Errorf("Later(%d): %d, in use %d", b, e, o.has[b])
	} else if e == api.OK {
		delete(o.has, b)
		o.gone[b] = 1
	}
}

func (o *outside) landed(t *testing.T, s *space.Space, blocks ...int) {
	t.Helper()
	landed(t, s, api.OK, blocks...)
	for _, b := range blocks {
		delete(o.gone, b)
	}
}

func (o *outside) inode(t *testing.T, s *space.Space, give int) {
	t.Helper()
	if s.FreeInode(give) == api.OK {
		delete(o.inodes, give)
		return
	}
	if i, e := s.TakeInode(); e == api.OK {
		if o.inodes[i] != 0 {
			t.Errorf("TakeInode gave %d, which is in use", i)
		}
		o.inodes[i] = 1
	}
}

func TestWhatFollows(t *testing.T) { // P8.7
	for _, x := range []api.Super{{Sectors: 8, Inodes: 6}, {Sectors: 8, Inodes: 2}, small(), {Sectors: 90, Inodes: 20}} {
		for seed := range uint32(40) {
			next := steps(seed*7 + uint32(x.Sectors))
			inodes, blocks := someOf(next, 1, x.Inodes+1), someOf(next, x.Inodes+1, x.Sectors)
			s, o := begin(t, x, inodes, blocks), newOutside(x, inodes, blocks)
			for range 300 {
				b := x.Inodes + 1 + next(x.Sectors-x.Inodes-1)
				switch next(6) {
				case 0, 1:
					o.take(t, s)
				case 2, 3:
					o.later(t, s, b)
				case 4:
					o.landed(t, s, b, x.Sectors-1-next(x.Sectors-x.Inodes-1))
				case 5:
					o.inode(t, s, 1+next(x.Inodes))
				}
				o.sums(t, s)
			}
			if t.Failed() {
				t.Fatalf("%v, seed %d", x, seed)
			}
		}
	}
}

func TestATakeForEachThatIsFreeAtOnce(t *testing.T) { // P8.7: as long as Blocks is above Later there is one
	for seed := range uint32(30) {
		next := steps(seed + 77)
		x := api.Super{Sectors: 8 + next(200), Inodes: 1 + next(6)}
		blocks := someOf(next, x.Inodes+1, x.Sectors)
		s, o := begin(t, x, nil, blocks), newOutside(x, nil, blocks)
		for _, b := range blocks {
			if next(2) == 0 {
				o.later(t, s, b)
			}
		}
		r := s.Room()
		for range r.Blocks - r.Later {
			o.take(t, s)
			o.sums(t, s)
		}
		noBlock(t, s)
		room(t, s, r.Later, r.Later, r.Inodes)
	}
}
