package graph_test

import (
	"slices"
	"testing"

	"breakwater/api"
	"breakwater/graph"
)

// told is what a graph was told, kept as a list of edges in no order; ways are found by joining edges till no more come.
type told struct {
	list []api.Edge
}

func (h *told) add(e api.Edge) {
	if !slices.Contains(h.list, e) {
		h.list = append(h.list, e)
	}
}

func (h *told) remove(n int) {
	h.list = slices.DeleteFunc(h.list, func(e api.Edge) bool { return e.Pre == n || e.Post == n })
}

// reachers are all that reach a sector, itself too, rising.
func (h *told) reachers(n int) []int {
	found := []int{n}
	for more := true; more; {
		more = false
		for _, e := range h.list {
			if slices.Contains(found, e.Post) && !slices.Contains(found, e.Pre) {
				found = append(found, e.Pre)
				more = true
			}
		}
	}
	slices.Sort(found)
	return found
}

func (h *told) reaches(a, b int) bool { return slices.Contains(h.reachers(b), a) }

func (h *told) free(n int) bool {
	return !slices.ContainsFunc(h.list, func(e api.Edge) bool { return e.Post == n })
}

// edges are all of them, rising.
func (h *told) edges() []api.Edge {
	list := slices.Clone(h.list)
	slices.SortFunc(list, func(a, b api.Edge) int { return (a.Pre-b.Pre)*10000 + a.Post - b.Post })
	return list
}

// steps answers numbers below a limit, the same ones in every run.
func steps(seed uint32) func(limit int) int {
	return func(limit int) int {
		seed = seed*1664525 + 1013904223
		return int(seed>>8) % limit
	}
}

// few are some sectors, both ends among them.
func few() []int { return []int{0, 1, 2, 7, 100, 2048, 4093, 4094, 4095} }

// isSector tells whether a number is a sector's.
func isSector(n int) bool { return n >= 0 && n <= 4095 }

// agree holds all that a graph tells of some numbers to what it was told.
func agree(t *testing.T, g *graph.Graph, h *told, numbers []int) {
	t.Helper()
	edges(t, g, h.edges())
	for _, b := range numbers {
		all := h.reachers(b)
		before(t, g, b, slices.DeleteFunc(slices.Clone(all), func(a int) bool { return a == b })...)
		free(t, g, b, h.free(b))
		for _, a := range numbers {
			reaches(t, g, a, b, slices.Contains(all, a))
		}
	}
}

// noRing holds a graph to P3.6, by its Edges alone.
func noRing(t *testing.T, g *graph.Graph) {
	t.Helper()
	h := &told{g.Edges()}
	first := len(h.list) == 0
	for _, e := range h.list {
		if h.reaches(e.Post, e.Pre) {
			t.Errorf("a ring through %v: %v", e, h.list)
		}
		first = first || h.free(e.Pre)
	}
	if !first {
		t.Errorf("no sector from which an edge leads and to which none does: %v", h.list)
	}
}

// tell asks a graph one thing that changes it, or is refused, and holds the answer to what it was told before.
func tell(t *testing.T, g *graph.Graph, h *told, next func(int) int, numbers []int) {
	t.Helper()
	n, m := numbers[next(len(numbers))], numbers[next(len(numbers))]
	if next(6) == 0 {
		want := api.OK
		if isSector(n) {
			h.remove(n)
		} else {
			want = api.ErrArg
		}
		remove(t, g, n, want)
		return
	}
	want := api.OK
	if !isSector(n) || !isSector(m) {
		want = api.ErrArg
	} else if h.reaches(m, n) {
		want = api.ErrGraphCycle
	} else {
		h.add(api.Edge{Pre: n, Post: m})
	}
	add(t, g, n, m, want)
}

func TestMixedOrders(t *testing.T) { // P3.2 to P3.6, P3.8
	numbers := append(few(), -1, 4096)
	for seed := range uint32(40) {
		next := steps(seed)
		gs := []*graph.Graph{graph.New(), graph.New()}
		hs := []*told{{}, {}}
		for i := range 120 {
			k := next(2) // two side by side, which have nothing to do with each other
			tell(t, gs[k], hs[k], next, numbers)
			agree(t, gs[0], hs[0], numbers)
			agree(t, gs[1], hs[1], numbers)
			noRing(t, gs[k])
			if t.Failed() {
				t.Fatalf("seed %d, step %d", seed, i)
			}
		}
	}
}

// shuffled is a list in another order.
func shuffled[T any](next func(int) int, list []T) []T {
	other := slices.Clone(list)
	for i := len(other) - 1; i > 0; i-- {
		j := next(i + 1)
		other[i], other[j] = other[j], other[i]
	}
	return other
}

// someEdges are edges without a ring among n sectors, in no order.
func someEdges(next func(int) int, n, count int) []api.Edge {
	var numbers []int
	for i := range n {
		numbers = append(numbers, i*4095/(n-1))
	}
	numbers = shuffled(next, numbers)
	var list []api.Edge
	for range count {
		i := next(n - 1)
		e := api.Edge{Pre: numbers[i], Post: numbers[i+1+next(n-1-i)]}
		if !slices.Contains(list, e) {
			list = append(list, e)
		}
	}
	return list
}

// ready are the sectors that have an edge and are Free, rising.
func ready(g *graph.Graph) []int {
	var list []int
	for _, e := range g.Edges() {
		for _, n := range []int{e.Pre, e.Post} {
			if g.Free(n) {
				list = append(list, n)
			}
		}
	}
	slices.Sort(list)
	return slices.Compact(list)
}

// choices are ways to choose one of a list.
func choices(next func(int) int) []func(list []int) int {
	return []func(list []int) int{
		func(list []int) int { return list[0] },
		func(list []int) int { return list[len(list)-1] },
		func(list []int) int { return list[next(len(list))] },
	}
}

func TestAnOrder(t *testing.T) { // P3.7
	for seed := range uint32(30) {
		next := steps(seed)
		list := someEdges(next, 4+next(20), 1+next(60))
		first := &told{list}
		for _, choose := range choices(next) {
			g := with(t, list)
			var gone []int
			for len(g.Edges()) > 0 {
				some := ready(g)
				if len(some) == 0 || len(gone) > len(list) {
					t.Fatalf("seed %d: behind %v Free are %v, edges %v", seed, gone, some, g.Edges())
				}
				n := choose(some)
				remove(t, g, n, api.OK)
				gone = append(gone, n)
			}
			held(t, first, gone)
		}
	}
}

// held holds an order of removed sectors to P3.7: each behind all those that reached it at first, and no edge gone without its pre.
func held(t *testing.T, first *told, gone []int) {
	t.Helper()
	for i, n := range gone {
		for _, a := range first.reachers(n) {
			if k := slices.Index(gone, a); a != n && (k < 0 || k > i) {
				t.Errorf("%d was removed ahead of %d, which reached it: %v", n, a, gone)
			}
		}
	}
	for _, e := range first.list {
		if !slices.Contains(gone, e.Pre) {
			t.Errorf("%v went, and %d was not removed: %v", e, e.Pre, gone)
		}
	}
}

func TestAnyOrderOfAdds(t *testing.T) { // P3.8
	for seed := range uint32(30) {
		next := steps(seed + 1000)
		one, two := someEdges(next, 12, 30), someEdges(next, 12, 5)
		n := one[next(len(one))].Pre
		var want []api.Edge
		for k := range 6 {
			g := with(t, shuffled(next, one))
			edges(t, g, (&told{one}).edges())
			remove(t, g, n, api.OK)
			h := &told{slices.Clone(one)}
			h.remove(n)
			edges(t, g, h.edges())
			// None of these is refused, in whatever order: together with what is left they have no ring.
			both := &told{slices.Clone(h.list)}
			var more []api.Edge
			for _, e := range two {
				if !both.reaches(e.Post, e.Pre) {
					both.add(e)
					more = append(more, e)
				}
			}
			for _, e := range shuffled(next, more) {
				add(t, g, e.Pre, e.Post, api.OK)
			}
			if k == 0 {
				want = g.Edges()
			}
			edges(t, g, want)
			edges(t, g, both.edges())
		}
	}
}

func TestRefusedJustIfThereIsAWay(t *testing.T) { // P3.8, by the Edges alone
	for seed := range uint32(20) {
		next := steps(seed + 2000)
		list := someEdges(next, 9, 14)
		h := &told{with(t, list).Edges()}
		for _, pre := range append(few(), list[0].Pre, list[0].Post) {
			for _, post := range append(few(), list[1].Pre, list[1].Post) {
				want := api.OK
				if h.reaches(post, pre) {
					want = api.ErrGraphCycle
				}
				add(t, with(t, list), pre, post, want)
			}
		}
	}
}
