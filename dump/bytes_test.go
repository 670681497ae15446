package dump_test

import (
	"bytes"
	"encoding/binary"
	"slices"
	"strings"
	"testing"

	"breakwater/api"
	"breakwater/dump"
)

// encoded is a node's bytes, laid in another way, whatever the node is.
func encoded(nodes ...api.Node) string {
	var b []byte
	for _, n := range nodes {
		b = append(b, byte(n.Kind))
		b = binary.LittleEndian.AppendUint64(b, uint64(n.Made))
		for _, part := range []string{n.Path, n.Same, string(n.Data)} {
			b = binary.LittleEndian.AppendUint32(b, uint32(len(part)))
			b = append(b, part...)
		}
	}
	return string(b)
}

// raw is one, with lengths that need not be those of what stands behind them.
func raw(kind byte, made uint64, parts ...any) string {
	b := binary.LittleEndian.AppendUint64([]byte{kind}, made)
	for _, p := range parts {
		switch x := p.(type) {
		case int:
			b = binary.LittleEndian.AppendUint32(b, uint32(x))
		case string:
			b = append(b, x...)
		}
	}
	return string(b)
}

// decoded are the nodes that some bytes say, found in another way; whether there are some.
func decoded(b string) ([]api.Node, bool) {
	r := bytes.NewReader([]byte(b))
	var nodes []api.Node
	for r.Len() > 0 {
		var head struct {
			Kind uint8
			Made uint64
		}
		if binary.Read(r, binary.LittleEndian, &head) != nil || head.Kind < 1 || head.Kind > 2 || head.Made > 1<<40 {
			return nil, false
		}
		var parts [3][]byte
		for k, most := range []uint32{400, 400, 136704} {
			var n uint32
			if binary.Read(r, binary.LittleEndian, &n) != nil || n > most || int(n) > r.Len() {
				return nil, false
			}
			parts[k] = make([]byte, n)
			if n > 0 && binary.Read(r, binary.LittleEndian, parts[k]) != nil {
				return nil, false
			}
		}
		nodes = append(nodes, api.Node{Kind: int(head.Kind), Made: int(head.Made), Path: string(parts[0]), Same: string(parts[1]), Data: parts[2]})
	}
	return nodes, true
}

// stands holds Bytes to some.
func stands(t *testing.T, want string, nodes ...api.Node) {
	t.Helper()
	if b, e := dump.Bytes(nodes...); e != api.OK || string(b) != want {
		t.Errorf("Bytes of%s\n%x, %d, want %x", sayNodes(nodes), b, e, want)
	}
}

// unwritten holds Bytes to refusing nodes.
func unwritten(t *testing.T, nodes ...api.Node) {
	t.Helper()
	if b, e := dump.Bytes(nodes...); e != api.ErrDumpBytes || len(b) > 0 {
		t.Errorf("Bytes of%s\n%d bytes, %d", sayNodes(nodes), len(b), e)
	}
}

// reads holds Read to nodes.
func reads(t *testing.T, b string, want ...api.Node) {
	t.Helper()
	if nodes, e := dump.Read([]byte(b)); e != api.OK || !sameNodes(nodes, want) {
		t.Errorf("Read of %.100x: %d, %s\nwant%s", b, e, sayNodes(nodes), sayNodes(want))
	}
}

// isNone holds Read to refusing bytes.
func isNone(t *testing.T, b string) {
	t.Helper()
	if nodes, e := dump.Read([]byte(b)); e != api.ErrDumpBytes || len(nodes) > 0 {
		t.Errorf("Read of %.100x: %d, %s", b, e, sayNodes(nodes))
	}
}

func TestBytes(t *testing.T) { // P17.3: byte by byte
	stands(t, "\x01\x08\x07\x06\x05\x04\x00\x00\x00\x03\x00\x00\x00/ab\x00\x00\x00\x00\x05\x00\x00\x00\x00x\x00y\xff",
		api.Node{Path: "/ab", Kind: 1, Made: 0x0405060708, Data: []byte("\x00x\x00y\xff")})
	stands(t, "\x02\x00\x00\x00\x00\x00\x01\x00\x00\x00\x00\x00\x00\x01\x00\x00\x00s\x00\x00\x00\x00",
		api.Node{Kind: 2, Made: 1 << 40, Same: "s"})
	stands(t, "\x01\x01\x00\x00\x00\x00\x00\x00\x00\x02\x00\x00\x00/a\x00\x00\x00\x00\x00\x00\x00\x00"+"\x01\x02\x00\x00\x00\x00\x00\x00\x00\x02\x00\x00\x00/b\x02\x00\x00\x00/a\x00\x00\x00\x00",
		aFile("/a", 1, ""), aName("/b", 2, "/a"))
	b, _ := dump.Bytes(aFile("/a", 0, some(api.MaxFile)))
	if len(b) != 21+2+136704 || string(b[15:23]) != "\x00\x00\x00\x00\x00\x16\x02\x00" || string(b[23:]) != some(136704) {
		t.Errorf("Bytes of a long file: %d, %x", len(b), b[:40])
	}
}

// fit are nodes that have bytes: at every edge, and such as no tree has.
func fit() []api.Node {
	long := strings.Repeat("p", 400)
	return []api.Node{
		{Kind: 1}, {Kind: 2}, aFile("/a", 0, ""), aFile("/a", 1<<40, "x"), aDir("/d", 0), aDir("/d", 1<<40), aName("/a", 5, "/b"), aFile("/a", 1<<40-1, some(255)), aFile("/a", 256, some(256)),
		{Kind: 1, Path: long}, {Kind: 2, Path: long}, {Kind: 1, Same: long}, {Kind: 2, Same: long}, {Kind: 1, Path: long, Same: long, Made: 1 << 40, Data: []byte(some(300))},
		{Kind: 1, Path: long[:399], Same: long[:255]}, {Kind: 1, Path: long[:256]},
		aFile("/a", 3, some(api.MaxFile)), aFile("/a", 3, zeros(api.MaxFile-1)), {Kind: 2, Data: make([]byte, api.MaxFile)}, {Kind: 1, Same: "s", Data: make([]byte, api.MaxFile)},
		{Kind: 2, Path: "/d", Same: "/d", Data: []byte("d")}, aName("/a", 1, "/a"), aName("/a", 1, "/none"), aFile("no path", 1, ""), aFile("", 1, ""), aFile("/../\x00\xff", 1, "\x00"),
	}
}

func TestWhatHasBytes(t *testing.T) { // P17.3, P17.4, P17.5: at every edge; nothing else is asked of a node
	for _, n := range fit() {
		stands(t, encoded(n), n)
		reads(t, encoded(n), n)
	}
	stands(t, encoded(fit()...), fit()...)
	reads(t, encoded(fit()...), fit()...)
}

// noBytes are nodes that have none.
func noBytes() []api.Node {
	long := strings.Repeat("p", 401)
	return []api.Node{
		{}, {Path: "/a"}, {Path: "/a", Kind: 3}, {Path: "/a", Kind: -1}, {Path: "/a", Kind: 256}, {Path: "/a", Kind: 257}, {Path: "/a", Kind: 258}, {Kind: minInt}, {Kind: maxInt}, {Kind: 1<<32 + 1}, {Kind: 1<<63 - 255},
		aFile("/a", -1, ""), aFile("/a", 1<<40+1, ""), aFile("/a", 1<<41, ""), aFile("/a", minInt, ""), aFile("/a", maxInt, ""), aDir("/a", -1), aDir("/a", 1<<40+1), aName("/a", -1, "/b"), aName("/a", 1<<40+1, "/b"),
		{Kind: 1, Path: long}, {Kind: 2, Path: long}, {Kind: 1, Same: long}, {Kind: 2, Same: long}, {Kind: 1, Path: strings.Repeat("p", 65536)}, {Kind: 1, Same: strings.Repeat("p", 65536)},
		aFile("/a", 1, zeros(api.MaxFile+1)), {Kind: 2, Data: make([]byte, api.MaxFile+1)}, aFile("/a", 1, some(1<<20)),
	}
}

func TestWhatHasNone(t *testing.T) { // P17.3: ErrDumpBytes and no bytes, wherever it stands; P17.4: what would be its bytes are none
	for _, n := range noBytes() {
		unwritten(t, n)
		unwritten(t, n, aFile("/a", 1, "a"))
		unwritten(t, aFile("/a", 1, "a"), n)
		unwritten(t, aFile("/a", 1, "a"), n, aDir("/b", 1))
		if n.Kind >= 0 && n.Kind < 256 { // others have no byte
			isNone(t, encoded(n))
			isNone(t, encoded(n, aFile("/a", 1, "a")))
			isNone(t, encoded(aFile("/a", 1, "a"), n, aDir("/b", 1)))
		}
	}
}

func TestEachBeginning(t *testing.T) { // P17.4: of some bytes; only where a node ends they are a tree's
	nodes := append(scriptNodes(), fit()[:16]...)
	b := encoded(nodes...)
	ends := map[int]int{} // how many nodes end there
	for k := range len(nodes) + 1 {
		ends[len(encoded(nodes[:k]...))] = k
	}
	for n := range len(b) + 1 {
		if k, whole := ends[n]; whole {
			reads(t, b[:n], nodes[:k]...)
			continue
		}
		isNone(t, b[:n])
	}
	for c := range 256 {
		isNone(t, b+string([]byte{byte(c)}))
		isNone(t, string([]byte{byte(c)}))
	}
}

func TestLengthsThatAreTooGreat(t *testing.T) { // P17.4: of each part, by one or by much
	reads(t, raw(1, 7, 2, "/c", 1, "s", 3, "xyz"), api.Node{Path: "/c", Kind: 1, Made: 7, Same: "s", Data: []byte("xyz")})
	for _, n := range []int{4, 5, 255, 256, 400, 401, 136704, 136705, 1 << 24, 1<<31 - 1, 1 << 31, 1<<32 - 1} {
		isNone(t, raw(1, 7, 2, "/c", 1, "s", n, "xyz"))
		isNone(t, raw(1, 7, 2, "/c", n+9, "s", 3, "xyz"))
		isNone(t, raw(1, 7, n+20, "/c", 1, "s", 3, "xyz"))
		isNone(t, raw(1, 7, n))
		isNone(t, raw(1, 7, 0, n))
		isNone(t, raw(1, 7, 0, 0, n))
	}
	isNone(t, raw(1, 7, 2, "/c", 1, "s", 2, "xyz"))
	isNone(t, raw(1, 7, 401, strings.Repeat("p", 401), 0, 0)) // there are so many, but may not be
	isNone(t, raw(1, 7, 0, 401, strings.Repeat("p", 401), 0))
	isNone(t, raw(1, 7, 0, 0, 136705, some(136705)))
	reads(t, raw(1, 7, 0, 0, 136704, some(136704)), api.Node{Kind: 1, Made: 7, Data: []byte(some(136704))})
}

func TestKindsAndMadesInBytes(t *testing.T) { // P17.4: such as may not be
	for kind := range 256 {
		b := raw(byte(kind), 7, 2, "/c", 0, 0)
		if kind == 1 || kind == 2 {
			reads(t, b, api.Node{Path: "/c", Kind: kind, Made: 7})
			continue
		}
		isNone(t, b)
	}
	for _, made := range []uint64{0, 1, 255, 256, 1<<32 - 1, 1 << 32, 1<<40 - 1, 1 << 40} {
		reads(t, raw(1, made, 2, "/c", 0, 0), aFile("/c", int(made), ""))
	}
	for _, made := range []uint64{1<<40 + 1, 1 << 41, 1 << 48, 1 << 56, 1<<63 - 1, 1 << 63, 1<<63 + 7, 1<<64 - 1, 1<<64 - 1<<40} {
		isNone(t, raw(1, made, 2, "/c", 0, 0))
	}
}

func TestBytesThatWereTurned(t *testing.T) { // P17.4, P17.5: each byte of some turned into others: the nodes that they say, or none
	b := encoded(append(scriptNodes(), fit()[:9]...)...)
	there, none := 0, 0
	for at := range len(b) {
		for _, by := range []byte{1, 2, 3, 0x10, 0x80, 0xff} {
			c := b[:at] + string([]byte{b[at] ^ by}) + b[at+1:]
			if want, yes := decoded(c); yes {
				there++
				reads(t, c, want...)
				stands(t, c, want...)
				continue
			}
			none++
			isNone(t, c)
		}
	}
	if there == 0 || none == 0 {
		t.Errorf("%d were some nodes' bytes, %d were not", there, none)
	}
}

func TestWhateverBytes(t *testing.T) { // P17.4, R1: short ones put together at random, of whose numbers some are wrong
	next := steps(7)
	now := func() int { // mostly 0
		return max(0, next(60)-58)
	}
	there := 0
	for range 20000 {
		b := &strings.Builder{}
		for range next(5) {
			var parts []any
			for range 3 + now() - now() {
				n := next(4)
				parts = append(parts, n+now(), strings.Repeat("x", n+now()))
			}
			b.WriteString(raw(byte(1+next(2)+now()), uint64(next(3)+now()<<40), parts...))
		}
		want, yes := decoded(b.String())
		if !yes {
			isNone(t, b.String())
			continue
		}
		there++
		reads(t, b.String(), want...)
		stands(t, b.String(), want...)
	}
	if there < 5000 || there > 18000 {
		t.Errorf("%d of them are some nodes' bytes", there)
	}
}

func TestManyNodesInBytes(t *testing.T) { // P17.3, P17.4: Bytes of many are those of each, one behind the other
	var nodes []api.Node
	var whole []byte
	for k := range 3000 {
		n := fit()[k%9]
		n.Made = k
		b, _ := dump.Bytes(n)
		whole = append(whole, b...)
		nodes = append(nodes, n)
	}
	stands(t, string(whole), nodes...)
	reads(t, string(whole), nodes...)
	if b, _ := dump.Bytes(nodes[7], nodes[5]); !slices.Equal(b, []byte(encoded(nodes[7], nodes[5]))) {
		t.Error("their order is another")
	}
}
