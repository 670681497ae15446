package graph_test

import (
	"math"
	"slices"
	"testing"

	"breakwater/api"
	"breakwater/graph"
)

// edgesOf is a list of edges by pairs of numbers.
func edgesOf(pairs ...int) []api.Edge {
	var list []api.Edge
	for i := 0; i+1 < len(pairs); i += 2 {
		list = append(list, api.Edge{Pre: pairs[i], Post: pairs[i+1]})
	}
	return list
}

// with is a graph to which edges were added, none of which it refused.
func with(t *testing.T, list []api.Edge) *graph.Graph {
	t.Helper()
	g := graph.New()
	if g == nil {
		t.Fatal("New: nil")
	}
	for _, e := range list {
		add(t, g, e.Pre, e.Post, api.OK)
	}
	return g
}

func add(t *testing.T, g *graph.Graph, pre, post int, want api.Errno) {
	t.Helper()
	if e := g.Add(pre, post); e != want {
		t.Errorf("Add(%d, %d): %d, want %d", pre, post, e, want)
	}
}

func remove(t *testing.T, g *graph.Graph, n int, want api.Errno) {
	t.Helper()
	if e := g.Remove(n); e != want {
		t.Errorf("Remove(%d): %d, want %d", n, e, want)
	}
}

func edges(t *testing.T, g *graph.Graph, want []api.Edge) {
	t.Helper()
	if list := g.Edges(); !slices.Equal(list, want) {
		t.Errorf("Edges: %v, want %v", list, want)
	}
}

func before(t *testing.T, g *graph.Graph, n int, want ...int) {
	t.Helper()
	if list := g.Before(n); !slices.Equal(list, want) {
		t.Errorf("Before(%d): %v, want %v", n, list, want)
	}
}

func reaches(t *testing.T, g *graph.Graph, a, b int, want bool) {
	t.Helper()
	if got := g.Reaches(a, b); got != want {
		t.Errorf("Reaches(%d, %d): %v", a, b, got)
	}
}

func free(t *testing.T, g *graph.Graph, n int, want bool) {
	t.Helper()
	if got := g.Free(n); got != want {
		t.Errorf("Free(%d): %v", n, got)
	}
}

// outside are numbers that are no sector's.
func outside() []int {
	return []int{-1, -2, -4095, -4096, 4096, 4097, 8191, 1 << 32, 1<<32 + 1, -1 << 32, math.MaxInt, math.MinInt}
}

// rowOf is the edges of a row of n sectors from 0 on, each of them ahead of the next one.
func rowOf(n int) []api.Edge {
	var list []api.Edge
	for i := range n - 1 {
		list = append(list, api.Edge{Pre: i, Post: i + 1})
	}
	return list
}

func TestNew(t *testing.T) { // P3.1, P3.3
	g := with(t, nil)
	edges(t, g, nil)
	for _, n := range append(outside(), 0, 1, 5, 4094, 4095) {
		before(t, g, n)
		free(t, g, n, true)
		reaches(t, g, n, n, true)
		reaches(t, g, n, 7, false)
		reaches(t, g, 7, n, false)
	}
	edges(t, g, nil)
}

func TestAddOfWhatIsNoSector(t *testing.T) { // P3.2, R3, R6
	had := edgesOf(0, 5, 3, 4095, 5, 3)
	g := with(t, had)
	for _, n := range outside() {
		for _, m := range append(outside(), 0, 3, 5, 4095) {
			add(t, g, n, m, api.ErrArg) // ahead of ErrGraphCycle, where n is m
			add(t, g, m, n, api.ErrArg)
		}
	}
	edges(t, g, had)
}

func TestAddAtTheEnds(t *testing.T) { // P3.2
	for _, e := range edgesOf(0, 4095, 4095, 0, 0, 1, 1, 0, 4094, 4095, 4095, 4094, 7, 4095, 0, 7) {
		g := with(t, []api.Edge{e})
		edges(t, g, []api.Edge{e})
		reaches(t, g, e.Pre, e.Post, true)
		reaches(t, g, e.Post, e.Pre, false)
		before(t, g, e.Post, e.Pre)
		before(t, g, e.Pre)
		free(t, g, e.Post, false)
		free(t, g, e.Pre, true)
		add(t, g, e.Post, e.Pre, api.ErrGraphCycle)
		edges(t, g, []api.Edge{e})
	}
}

func TestAddToItself(t *testing.T) { // P3.2, P3.6
	g := with(t, edgesOf(1, 2, 2, 3))
	for _, n := range []int{0, 1, 2, 3, 4, 4095} {
		add(t, g, n, n, api.ErrGraphCycle)
	}
	edges(t, g, edgesOf(1, 2, 2, 3))
	free(t, g, 1, true)
	free(t, g, 4, true)
}

func TestAddAgain(t *testing.T) { // P3.2
	g := with(t, edgesOf(3, 1, 1, 2, 3, 1, 3, 2, 3, 1, 3, 2))
	edges(t, g, edgesOf(1, 2, 3, 1, 3, 2))
	before(t, g, 2, 1, 3)
	// It stands there once: one Remove of either end takes it.
	remove(t, g, 3, api.OK)
	edges(t, g, edgesOf(1, 2))
	free(t, g, 1, true)
	add(t, g, 2, 3, api.OK)
	add(t, g, 2, 3, api.OK)
	edges(t, g, edgesOf(1, 2, 2, 3))
}

func TestAddIsOneWay(t *testing.T) { // P3.2
	g := with(t, edgesOf(5, 2))
	reaches(t, g, 5, 2, true)
	reaches(t, g, 2, 5, false)
	free(t, g, 5, true)
	free(t, g, 2, false)
	edges(t, g, edgesOf(5, 2))
}

func TestRings(t *testing.T) { // P3.2, P3.6, P3.8
	for _, n := range []int{2, 3, 4, 7, 100, 4096} {
		row := rowOf(n)
		g := with(t, row)
		for _, k := range []int{0, 1, n / 3, n / 2, n - 2, n - 1} {
			add(t, g, k, 0, api.ErrGraphCycle)
			add(t, g, n-1, k, api.ErrGraphCycle)
		}
		edges(t, g, row)
		reaches(t, g, 0, n-1, true)
		reaches(t, g, n-1, 0, false)
		add(t, g, 0, n-1, api.OK) // beside the row, in its own direction
	}
}

func TestWaysBesideEachOtherAreNoRing(t *testing.T) { // P3.2, P3.8
	g := with(t, edgesOf(1, 2, 1, 3, 2, 4, 3, 4, 1, 4, 5, 4, 5, 2))
	edges(t, g, edgesOf(1, 2, 1, 3, 1, 4, 2, 4, 3, 4, 5, 2, 5, 4))
	before(t, g, 4, 1, 2, 3, 5)
	before(t, g, 3, 1)
	add(t, g, 4, 1, api.ErrGraphCycle)
	add(t, g, 2, 5, api.ErrGraphCycle)
	add(t, g, 3, 5, api.OK) // 5 does not reach 3
	add(t, g, 2, 3, api.ErrGraphCycle)
	before(t, g, 4, 1, 2, 3, 5)
	before(t, g, 2, 1, 3, 5)
}

func TestARingThatAnEdgeWasRemovedOf(t *testing.T) { // P3.2, P3.4, P3.8
	g := with(t, edgesOf(1, 2, 2, 3, 3, 4))
	add(t, g, 4, 1, api.ErrGraphCycle)
	remove(t, g, 2, api.OK)
	add(t, g, 4, 1, api.OK)
	edges(t, g, edgesOf(3, 4, 4, 1))
	add(t, g, 1, 3, api.ErrGraphCycle)
	add(t, g, 1, 2, api.OK)
	add(t, g, 2, 3, api.ErrGraphCycle)
	edges(t, g, edgesOf(1, 2, 3, 4, 4, 1))
}

func TestAsked(t *testing.T) { // P3.3
	list := edgesOf(0, 9, 2, 9, 9, 4095, 7, 2, 7, 3, 4094, 0)
	g := with(t, list)
	ways := map[int][]int{9: {0, 2, 7, 4094}, 4095: {0, 2, 7, 9, 4094}, 2: {7}, 3: {7}, 0: {4094}}
	for _, b := range append(outside(), 0, 1, 2, 3, 4, 7, 9, 4094, 4095) {
		before(t, g, b, ways[b]...)
		free(t, g, b, len(ways[b]) == 0)
		for _, a := range append(outside(), 0, 1, 2, 3, 4, 7, 9, 4094, 4095) {
			reaches(t, g, a, b, a == b || slices.Contains(ways[b], a))
		}
	}
	edges(t, g, edgesOf(0, 9, 2, 9, 7, 2, 7, 3, 9, 4095, 4094, 0))
}

func TestWhatIsNoSectorHasNoEdges(t *testing.T) { // P3.3
	g := with(t, edgesOf(0, 4095, 1, 0, 4095, 4094))
	for _, n := range outside() {
		free(t, g, n, true)
		before(t, g, n)
		reaches(t, g, n, n, true)
		for _, m := range []int{0, 1, 4094, 4095, n + 1, n - 1} {
			reaches(t, g, n, m, false)
			reaches(t, g, m, n, false)
		}
	}
	edges(t, g, edgesOf(0, 4095, 1, 0, 4095, 4094))
}

func TestListsAreRising(t *testing.T) { // P3.3, R5: whatever order the maps are gone through in
	for range 20 {
		g := graph.New()
		var all []int
		var want []api.Edge
		for i := 63; i >= 0; i-- {
			add(t, g, i*64, 4095, api.OK)
			add(t, g, 4095, i*64+1, api.OK)
		}
		for i := range 64 {
			all = append(all, i*64)
			want = append(want, api.Edge{Pre: i * 64, Post: 4095})
		}
		for i := range 64 {
			want = append(want, api.Edge{Pre: 4095, Post: i*64 + 1})
		}
		before(t, g, 4095, all...)
		before(t, g, 1, append(all, 4095)...)
		edges(t, g, want)
	}
}

func TestAskingChangesNothing(t *testing.T) { // P3.3
	list := edgesOf(1, 2, 1, 3, 3, 4)
	g := with(t, list)
	for range 3 {
		for _, n := range append(outside(), 0, 1, 2, 3, 4, 5, 4095) {
			g.Before(n)
			g.Free(n)
			for m := range 6 {
				g.Reaches(n, m)
				g.Reaches(m, n)
			}
			edges(t, g, list)
		}
		before(t, g, 4, 1, 3)
	}
}

func TestRemoveOfWhatIsNoSector(t *testing.T) { // P3.4, R3
	list := edgesOf(0, 4095, 5, 0, 5, 7)
	g := with(t, list)
	for _, n := range outside() {
		remove(t, g, n, api.ErrArg)
		remove(t, graph.New(), n, api.ErrArg)
	}
	edges(t, g, list)
}

func TestRemoveOfASectorWithoutEdges(t *testing.T) { // P3.4
	g := with(t, edgesOf(0, 4095, 5, 0))
	for _, n := range []int{1, 2, 4, 6, 4094} {
		remove(t, g, n, api.OK)
	}
	edges(t, g, edgesOf(0, 4095, 5, 0))
	for _, n := range []int{0, 1, 4095} {
		remove(t, graph.New(), n, api.OK)
	}
	for range 3 {
		remove(t, g, 0, api.OK)
		edges(t, g, nil)
		free(t, g, 4095, true)
		free(t, g, 0, true)
	}
}

func TestRemove(t *testing.T) { // P3.4
	list := edgesOf(0, 4, 0, 4095, 1, 4, 4, 5, 4, 4095, 5, 4095)
	for _, c := range []struct {
		n    int
		want []api.Edge
	}{
		{0, edgesOf(1, 4, 4, 5, 4, 4095, 5, 4095)},
		{1, edgesOf(0, 4, 0, 4095, 4, 5, 4, 4095, 5, 4095)},
		{4, edgesOf(0, 4095, 5, 4095)},
		{5, edgesOf(0, 4, 0, 4095, 1, 4, 4, 4095)},
		{4095, edgesOf(0, 4, 1, 4, 4, 5)},
		{7, list},
	} {
		g := with(t, list)
		remove(t, g, c.n, api.OK)
		edges(t, g, c.want)
		free(t, g, c.n, true)
		before(t, g, c.n)
		for _, m := range []int{0, 1, 4, 5, 4095} {
			reaches(t, g, c.n, m, c.n == m)
			free(t, g, m, !slices.ContainsFunc(c.want, func(e api.Edge) bool { return e.Post == m }))
		}
	}
}

func TestRemoveTakesTheWaysThrough(t *testing.T) { // P3.4: no edge comes in the place of a way that went through it
	g := with(t, edgesOf(1, 2, 2, 3))
	reaches(t, g, 1, 3, true)
	remove(t, g, 2, api.OK)
	reaches(t, g, 1, 3, false)
	before(t, g, 3)
	free(t, g, 3, true)
	edges(t, g, nil)
	add(t, g, 3, 1, api.OK)
	add(t, g, 1, 2, api.OK)
	edges(t, g, edgesOf(1, 2, 3, 1))
}

func TestListsAreNew(t *testing.T) { // P3.5, R4
	list := edgesOf(1, 5, 2, 5, 3, 5, 5, 6)
	g := with(t, list)
	a, b := g.Edges(), g.Edges()
	c, d := g.Before(6), g.Before(6)
	for i := range a[:cap(a)] {
		a[:cap(a)][i] = api.Edge{Pre: 9, Post: 9}
	}
	for i := range c[:cap(c)] {
		c[:cap(c)][i] = 9
	}
	if !slices.Equal(b, list) || !slices.Equal(d, []int{1, 2, 3, 5}) {
		t.Errorf("two lists share memory: %v, %v", b, d)
	}
	edges(t, g, list)
	before(t, g, 6, 1, 2, 3, 5)
	reaches(t, g, 1, 6, true)
	add(t, g, 0, 1, api.OK)
	remove(t, g, 5, api.OK)
	if !slices.Equal(b, list) || !slices.Equal(d, []int{1, 2, 3, 5}) {
		t.Errorf("lists that came out were changed: %v, %v", b, d)
	}
	for i := range c[:cap(c)] {
		if c[:cap(c)][i] != 9 {
			t.Errorf("a list's spare room was written to: %v", c[:cap(c)])
		}
	}
	edges(t, g, edgesOf(0, 1))
}

func TestTwoGraphs(t *testing.T) { // P3.5
	g, h := with(t, edgesOf(1, 2, 2, 3)), with(t, edgesOf(3, 2, 2, 1))
	if g == h {
		t.Fatal("two graphs are one")
	}
	add(t, g, 3, 1, api.ErrGraphCycle)
	add(t, h, 3, 1, api.OK)
	edges(t, g, edgesOf(1, 2, 2, 3))
	edges(t, h, edgesOf(2, 1, 3, 1, 3, 2))
	remove(t, g, 2, api.OK)
	edges(t, g, nil)
	edges(t, h, edgesOf(2, 1, 3, 1, 3, 2))
	before(t, h, 1, 2, 3)
	free(t, g, 1, true)
	edges(t, graph.New(), nil)
}

func TestOfTheDocument(t *testing.T) { // P3.1 to P3.4
	g := graph.New()
	add(t, g, 5, 5, api.ErrGraphCycle)
	add(t, g, -1, 5, api.ErrArg)
	add(t, g, 5, 4096, api.ErrArg)
	add(t, g, 4095, 0, api.OK)
	g = graph.New()
	add(t, g, 3, 1, api.OK)
	add(t, g, 1, 2, api.OK)
	add(t, g, 3, 1, api.OK)
	add(t, g, 2, 3, api.ErrGraphCycle)
	add(t, g, 1, 3, api.ErrGraphCycle)
	edges(t, g, edgesOf(1, 2, 3, 1))
	before(t, g, 2, 1, 3)
	before(t, g, 3)
	reaches(t, g, 3, 2, true)
	reaches(t, g, 2, 3, false)
	free(t, g, 3, true)
	free(t, g, 2, false)
	free(t, g, 7, true)
	add(t, g, 3, 2, api.OK)
	remove(t, g, 1, api.OK)
	edges(t, g, edgesOf(3, 2))
	reaches(t, g, 3, 2, true)
	add(t, g, 2, 1, api.OK)
	add(t, g, 1, 3, api.ErrGraphCycle)
	remove(t, g, 4096, api.ErrArg)
	remove(t, g, 9, api.OK)
	edges(t, g, edgesOf(2, 1, 3, 2))
}

func TestTheLongestRow(t *testing.T) { // R1, P3.3: a way through all sectors
	for _, falling := range []bool{false, true} {
		row := rowOf(4096)
		if falling {
			slices.Reverse(row)
		}
		g := with(t, row)
		add(t, g, 4095, 0, api.ErrGraphCycle)
		reaches(t, g, 0, 4095, true)
		list := g.Before(4095)
		for i := range 4095 {
			if len(list) != 4095 || list[i] != i {
				t.Fatalf("Before(4095): %v", list)
			}
		}
		edges(t, g, rowOf(4096))
		remove(t, g, 2000, api.OK)
		reaches(t, g, 0, 4095, false)
		reaches(t, g, 2001, 4095, true)
		if n := len(g.Before(4095)); n != 4095-2001 {
			t.Errorf("%d sectors ahead of the last one", n)
		}
	}
}

func TestManyWaysComeTogether(t *testing.T) { // R1: 2 to the 1365th ways, and each call ends
	g := graph.New()
	for i := 0; i+3 < 4096; i += 3 {
		for _, mid := range []int{i + 1, i + 2} {
			add(t, g, i, mid, api.OK)
			add(t, g, mid, i+3, api.OK)
		}
	}
	reaches(t, g, 0, 4095, true)
	reaches(t, g, 4095, 0, false)
	reaches(t, g, 1, 2, false)
	add(t, g, 4095, 0, api.ErrGraphCycle)
	if n := len(g.Before(4095)); n != 4095 {
		t.Errorf("%d sectors ahead of the last one", n)
	}
}
