package dump_test

import (
	"slices"
	"testing"

	"breakwater/api"
	"breakwater/dump"
)

// spoil writes over a list, and over its spare room.
func spoil[T any](list []T, with T) {
	list = list[:cap(list)]
	for k := range list {
		list[k] = with
	}
}

// spoilEach writes over the Data of each node, one by one; ahead of each of these the others must be what they were.
func spoilEach(t *testing.T, nodes, want []api.Node) {
	t.Helper()
	for k := range nodes {
		if !sameNodes(nodes[k:], want[k:]) {
			t.Fatalf("two nodes share memory")
		}
		spoil(nodes[k].Data, 99)
	}
	spoil(nodes, api.Node{Path: "/spoilt"})
}

// sampled are nodes with bytes of several lengths, all of which can be made.
func sampled() []api.Node {
	return []api.Node{
		aFile("/a", 1, some(300)), aFile("/b", 2, some(1)), aDir("/c", 3), aFile("/c/d", 4, zeros(128)+some(128)), aFile("/c/e", 5, ""), aName("/c/f", 1, "/a"), aFile("/g", 6, some(5000)), aFile("/h", 7, some(api.MaxData+9)),
	}
}

func TestWhatDumpAnswers(t *testing.T) { // R4: new memory, its spare room too: neither the file system nor another Dump has it, nor has an answer of the Asker
	for _, f := range empties(t, 1300, 20) {
		fills(t, f, len(sampled()), api.OK, sampled()...)
		x := &teller{Asker: f}
		first, second := dumps(t, x), dumps(t, f)
		for _, a := range x.answers {
			spoil(a.Data, 98)
			spoil(a.Entries, api.Entry{Name: "spoilt", Ino: 1, Kind: api.KindDir})
		}
		spoilEach(t, first, sampled())
		if !sameNodes(second, sampled()) {
			t.Error("two Dumps share memory")
		}
		tells(t, f, sampled()...)
	}
}

func TestWhatFillIsHanded(t *testing.T) { // R4: it is not changed, its spare room neither, and not kept
	for _, f := range empties(t, 1300, 20) {
		nodes := make([]api.Node, 0, 20)
		for _, n := range sampled() {
			n.Data = append(make([]byte, 0, len(n.Data)+200), n.Data...)
			nodes = append(nodes, n)
		}
		fills(t, f, len(nodes), api.OK, nodes...)
		if !sameNodes(nodes, sampled()) || !sameNodes(nodes[:20][len(nodes):], make([]api.Node, 20-len(nodes))) {
			t.Error("the nodes have changed")
		}
		for _, n := range nodes {
			if slices.Max(n.Data[:cap(n.Data)][len(n.Data):]) != 0 {
				t.Errorf("behind the Data of %s something was written", n.Path)
			}
		}
		spoilEach(t, nodes, sampled())
		tells(t, f, sampled()...)
	}
}

func TestWhatBytesHas(t *testing.T) { // R4: what is handed in is neither changed nor kept; what is answered is new
	nodes := sampled()
	first, _ := dump.Bytes(nodes...)
	second, _ := dump.Bytes(nodes...)
	if !sameNodes(nodes, sampled()) {
		t.Error("the nodes have changed")
	}
	spoil(first, 99)
	if string(second) != encoded(nodes...) || !sameNodes(nodes, sampled()) {
		t.Error("Bytes shares memory")
	}
	spoilEach(t, nodes, sampled())
	if string(second) != encoded(sampled()...) {
		t.Error("Bytes shares memory with its nodes")
	}
	one := api.Node{Kind: 1, Data: []byte(some(100))}
	b, _ := dump.Bytes(one)
	spoil(b, 99)
	if string(one.Data) != some(100) {
		t.Error("Bytes of one node shares memory with it")
	}
}

func TestWhatReadHas(t *testing.T) { // R4: likewise
	want := append(sampled(), api.Node{Kind: 2, Path: "p", Same: "s", Data: []byte("d")})
	b := append(make([]byte, 0, 200000), encoded(want...)...)
	before := slices.Clone(b[:cap(b)])
	first, e := dump.Read(b)
	second, _ := dump.Read(b)
	if e != api.OK || !sameNodes(first, want) || !slices.Equal(b[:cap(b)], before) {
		t.Errorf("Read: %d, or the bytes have changed", e)
	}
	spoilEach(t, first, want)
	if !slices.Equal(b[:cap(b)], before) || !sameNodes(second, want) {
		t.Error("the nodes share memory with the bytes")
	}
	spoil(b, 99)
	if !sameNodes(second, want) {
		t.Error("the nodes keep the bytes")
	}
	spoilEach(t, second, want)
}

func TestNilAndEmpty(t *testing.T) { // R4: they are one
	for _, data := range [][]byte{nil, {}, make([]byte, 0, 9)} {
		stands(t, encoded(aFile("/a", 1, "")), api.Node{Path: "/a", Kind: 1, Made: 1, Data: data})
		reads(t, string(data))
		for _, f := range empties(t, 40, 8) {
			fills(t, f, 3, api.OK, api.Node{Path: "/a", Kind: 1, Data: data}, api.Node{Path: "/b", Kind: 1, Same: "/a", Data: data}, api.Node{Path: "/d", Kind: 2, Data: data})
			tells(t, f, aFile("/a", 0, ""), aName("/b", 0, "/a"), aDir("/d", 0))
		}
	}
	for _, nodes := range [][]api.Node{nil, {}, make([]api.Node, 0, 9)} {
		stands(t, "", nodes...)
	}
}

// meddler lets all calls be done to another file system, whenever it is asked something.
type meddler struct {
	dump.Asker
	other dump.Asker
	asked int
}

func (m *meddler) Do(o api.Op) api.Answer {
	nodes, _ := dump.Dump(m.other)
	b, _ := dump.Bytes(nodes...)
	dump.Read(b)
	m.asked++
	path := "/x" + string(rune('a'+m.asked%26)) + string(rune('a'+m.asked/26))
	dump.Fill(m.other, aFile(path, m.asked, "other"), aName(path+"y", m.asked, path))
	return m.Asker.Do(o)
}

func TestSideBySide(t *testing.T) { // R5: two do not meet, though one is in the midst of its calls
	for _, f := range empties(t, 1300, 20) {
		x := &meddler{Asker: f, other: inMemory(t, 400, 100)}
		fills(t, x, len(sampled()), api.OK, sampled()...)
		tells(t, x, sampled()...)
		if n := len(dumps(t, x.other)); n != 2*x.asked {
			t.Errorf("the other one has %d names, behind %d calls", n, x.asked)
		}
	}
}

func TestTheSameAgain(t *testing.T) { // R5: the same arguments, the same answers
	for seed := range 10 {
		g := gameOf(t, seed)
		g.play(100)
		nodes := dumps(t, g.p)
		first := &teller{Asker: inMemory(t, g.size.sectors, g.size.inodes)}
		fills(t, first, len(nodes), api.OK, nodes...)
		for range 3 {
			tells(t, g.p, nodes...)
			x := &teller{Asker: inMemory(t, g.size.sectors, g.size.inodes)}
			fills(t, x, len(nodes), api.OK, deep(nodes)...)
			asked(t, x, first.ops...)
		}
	}
}
