package dump_test

import (
	"strconv"
	"strings"
	"testing"

	"breakwater/api"
	"breakwater/dump"
)

func TestFillOfNothing(t *testing.T) { // P17.2: nothing is asked
	for _, f := range empties(t, 40, 8) {
		x := &teller{Asker: f}
		fills(t, x, 0, api.OK)
		fills(t, x, 0, api.OK, []api.Node{}...)
		asked(t, x)
	}
}

func TestWhatFillAsks(t *testing.T) { // P17.2: one by one, in their order, whatever that is
	for _, f := range empties(t, 60, 20) {
		x := &teller{Asker: f}
		fills(t, x, 8, api.OK,
			aFile("/z", 1<<40, "zz"), aDir("/d", 0), aDir("/d/e", 1<<40), aName("/d/e/y", 7, "/z"), aFile("/d/e/x", 0, ""),
			aName("/a", 0, "/d/e/y"), aName("/d/b", 1<<40, "/d/e/x"), aDir("/c", 5),
		)
		asked(t, x,
			create("/z", 1<<40), write("/z", 0, []byte("zz")), truncate("/z", 2),
			mkdir("/d", 0), mkdir("/d/e", 1<<40),
			link("/z", "/d/e/y"),
			create("/d/e/x", 0), truncate("/d/e/x", 0),
			link("/d/e/y", "/a"), link("/d/e/x", "/d/b"),
			mkdir("/c", 5),
		)
		tells(t, f,
			aFile("/a", 1<<40, "zz"), aDir("/c", 5), aDir("/d", 0), aFile("/d/b", 0, ""), aDir("/d/e", 1<<40),
			aName("/d/e/x", 0, "/d/b"), aName("/d/e/y", 1<<40, "/a"), aName("/z", 1<<40, "/a"),
		)
	}
}

// piece is what a letter stands for: 0 zeros alone, 1 none, f and l one byte that is none, the first or the last one.
func piece(letter rune, size int) string {
	switch letter {
	case '1':
		return some(size)
	case 'f':
		return "\x01" + zeros(size-1)
	case 'l':
		return zeros(size-1) + "\xff"
	}
	return zeros(size)
}

// pieces are 128 bytes a letter, and those of a tail: a letter and how many.
func pieces(letters, tail string) string {
	b := &strings.Builder{}
	for _, c := range letters {
		b.WriteString(piece(c, 128))
	}
	if tail != "" {
		n, _ := strconv.Atoi(tail[1:])
		b.WriteString(piece(rune(tail[0]), n))
	}
	return b.String()
}

// writes holds the writes of a Fill of one file to where they are and how long; their bytes, and what else is asked, to what they must be.
func writes(t *testing.T, f dump.Asker, data string, want ...[2]int) {
	t.Helper()
	x := &teller{Asker: f}
	fills(t, x, 1, api.OK, aFile("/f", 3, data))
	ops := []api.Op{create("/f", 3)}
	for _, w := range want {
		ops = append(ops, write("/f", w[0], []byte(data[w[0]:w[0]+w[1]])))
	}
	asked(t, x, append(ops, truncate("/f", len(data)))...)
	tells(t, f, aFile("/f", 3, data))
	done(t, f, unlink("/f"))
}

func TestPieces(t *testing.T) { // P17.2: such as are all zeros are not written, wherever they are; each run of neighbours is one write
	for _, f := range empties(t, 60, 4) {
		writes(t, f, "")
		writes(t, f, "\x00")
		writes(t, f, "\x01", [2]int{0, 1})
		writes(t, f, pieces("", "0127"))
		writes(t, f, pieces("", "1127"), [2]int{0, 127})
		writes(t, f, pieces("", "l127"), [2]int{0, 127})
		writes(t, f, pieces("0", ""))
		writes(t, f, pieces("1", ""), [2]int{0, 128})
		writes(t, f, pieces("f", ""), [2]int{0, 128})
		writes(t, f, pieces("l", ""), [2]int{0, 128})
		writes(t, f, pieces("0", "01"))
		writes(t, f, pieces("0", "11"), [2]int{128, 1})
		writes(t, f, pieces("1", "01"), [2]int{0, 128})
		writes(t, f, pieces("1", "11"), [2]int{0, 129})
		writes(t, f, pieces("01", ""), [2]int{128, 128})
		writes(t, f, pieces("10", ""), [2]int{0, 128})
		writes(t, f, pieces("101", ""), [2]int{0, 128}, [2]int{256, 128})
		writes(t, f, pieces("0110", ""), [2]int{128, 256})
		writes(t, f, pieces("001lf00f0", "l5"), [2]int{256, 384}, [2]int{896, 128}, [2]int{1152, 5})
		writes(t, f, pieces("lf", "f127"), [2]int{0, 383})
		writes(t, f, pieces("0000000000000", "0100"))
		writes(t, f, zeros(64)+some(128)+zeros(64), [2]int{0, 256}) // runs begin and end with pieces, not with bytes
	}
}

// wanted are the writes, found in another way: piece by piece, each of which goes on with the one ahead of it or begins another write.
func wanted(data string) [][2]int {
	var all [][2]int
	for at := 0; at < len(data); at += 128 {
		n := min(128, len(data)-at)
		if strings.Trim(data[at:at+n], "\x00") == "" {
			continue
		}
		if k := len(all) - 1; k >= 0 && all[k][0]+all[k][1] == at && all[k][1] < 131072 {
			all[k][1] += n
			continue
		}
		all = append(all, [2]int{at, n})
	}
	return all
}

func TestAllFewPieces(t *testing.T) { // P17.2: every row of up to five pieces, with every tail
	f := inMemory(t, 40, 4)
	for n := range 6 {
		for row := range 1 << n {
			letters := strings.Builder{}
			for k := range n {
				letters.WriteByte("0f0l"[row>>k&1+k%2*2])
			}
			for _, tail := range []string{"", "01", "11", "0127", "f127", "l127"} {
				data := pieces(letters.String(), tail)
				writes(t, f, data, wanted(data)...)
			}
		}
	}
}

func TestLongRuns(t *testing.T) { // P17.2: a run of more than MaxData bytes is cut, wherever it begins; a file of MaxFile
	for _, f := range empties(t, 1300, 4) {
		const most = 131072
		writes(t, f, some(most-1), [2]int{0, most - 1})
		writes(t, f, some(most), [2]int{0, most})
		writes(t, f, some(most+1), [2]int{0, most}, [2]int{most, 1})
		writes(t, f, some(most+128), [2]int{0, most}, [2]int{most, 128})
		writes(t, f, some(most)+zeros(128), [2]int{0, most})
		writes(t, f, some(most)+zeros(128)+"\x01", [2]int{0, most}, [2]int{most + 128, 1})
		writes(t, f, zeros(128)+some(most), [2]int{128, most})
		writes(t, f, zeros(128)+some(most+1), [2]int{128, most}, [2]int{most + 128, 1})
		writes(t, f, zeros(1280)+some(most+300)+zeros(900), [2]int{1280, most}, [2]int{most + 1280, 384})
		writes(t, f, some(128)+zeros(128)+some(most+9), [2]int{0, 128}, [2]int{256, most}, [2]int{most + 256, 9})
		writes(t, f, some(api.MaxFile), [2]int{0, most}, [2]int{most, 5632})
		writes(t, f, some(api.MaxFile-1), [2]int{0, most}, [2]int{most, 5631})
		writes(t, f, zeros(api.MaxFile-1)+"\x01", [2]int{api.MaxFile - 128, 128})
		writes(t, f, zeros(api.MaxFile))
	}
}

func TestNodesThatMayBe(t *testing.T) { // P17.2: each edge of what may be, behind /x, a file, and /d, a directory
	for _, n := range []api.Node{
		aFile("/n", 0, ""), aFile("/n", 1<<40, ""), aDir("/n", 0), aDir("/n", 1<<40), aName("/n", 0, "/x"), aName("/n", 1<<40, "/x"),
		aFile("/n", 0, zeros(api.MaxFile)), {Path: "/n", Kind: 2, Data: make([]byte, 0, 9)}, {Path: "/n", Kind: 1, Same: "/x", Data: []byte{}},
	} {
		for _, f := range empties(t, 40, 8) {
			fills(t, f, 3, api.OK, aFile("/x", 1, "x"), aDir("/d", 2), n)
		}
	}
}

// unfit are nodes that may not be, behind /x, a file, and /d, a directory; /later is the path of a file's node behind them.
func unfit() []api.Node {
	return []api.Node{
		{Path: "/n"}, {Path: "/n", Kind: 3}, {Path: "/n", Kind: -1}, {Path: "/n", Kind: 257}, {Path: "/n", Kind: 1<<32 + 1}, {Path: "/n", Kind: minInt}, {Path: "/n", Kind: maxInt},
		{Path: "/n", Kind: 0, Same: "/x"}, {Path: "/n", Kind: 3, Same: "/x"},
		aFile("/n", -1, ""), aFile("/n", 1<<40+1, ""), aFile("/n", 1<<41, ""), aFile("/n", minInt, ""), aFile("/n", maxInt, ""), aFile("/n", -1<<40, ""),
		aDir("/n", -1), aDir("/n", 1<<40+1), aDir("/n", minInt), aDir("/n", maxInt),
		aName("/n", -1, "/x"), aName("/n", 1<<40+1, "/x"), aName("/n", minInt, "/x"), aName("/n", maxInt, "/x"),
		{Path: "/n", Kind: 2, Same: "/x"}, {Path: "/n", Kind: 2, Same: "/d"}, {Path: "/n", Kind: 2, Same: "/n"}, {Path: "/n", Kind: 2, Same: "/none"}, {Path: "/n", Kind: 2, Same: " "},
		{Path: "/n", Kind: 2, Data: []byte("x")}, {Path: "/n", Kind: 2, Data: []byte{0}}, {Path: "/n", Kind: 2, Same: "/x", Data: []byte{0}},
		{Path: "/n", Kind: 1, Same: "/x", Data: []byte("x")}, {Path: "/n", Kind: 1, Same: "/x", Data: []byte{0}}, {Path: "/n", Kind: 1, Same: "/x", Data: make([]byte, api.MaxFile+1)},
		aName("/n", 0, "/d"), aName("/n", 0, "/n"), aName("/n", 0, "/later"), aName("/n", 0, "/none"), aName("/n", 0, "/"), aName("/n", 0, "x"), aName("/n", 0, "/x/"), aName("/n", 0, "/d/x"),
		aName("/x", 0, "/d"), aName("/x", 0, "/y"),
		aFile("/n", 0, zeros(api.MaxFile+1)), aFile("/n", 0, some(api.MaxFile+1)), aFile("/n", 0, zeros(2*api.MaxFile)), {Path: "/n", Kind: 2, Data: make([]byte, api.MaxFile+1)},
		{Kind: 3}, {}, {Path: "no path", Kind: 0}, {Path: "no path", Kind: 1, Made: -1}, {Path: "/", Kind: 2, Data: []byte{0}}, // ahead of what the Asker says of the path
	}
}

func TestNodesThatMayNotBe(t *testing.T) { // P17.2: ErrDumpNode, ahead of all that is asked of it; those ahead of it are made, those behind it not
	ahead := []api.Node{aFile("/x", 1, "x"), aDir("/d", 2)}
	for _, n := range unfit() {
		for _, f := range empties(t, 40, 8) {
			x := &teller{Asker: f}
			fills(t, x, 2, api.ErrDumpNode, append(ahead[:2:2], n, aFile("/later", 3, "y"))...)
			asked(t, x, create("/x", 1), write("/x", 0, []byte("x")), truncate("/x", 1), mkdir("/d", 2))
			tells(t, f, aDir("/d", 2), aFile("/x", 1, "x"))
		}
	}
}

func TestHowManyWereMade(t *testing.T) { // P17.2: wherever the first error is, of a node that may not be or of the Asker
	nodes := []api.Node{aFile("/a", 1, "a"), aDir("/b", 2), aName("/c", 1, "/a"), aFile("/b/d", 3, ""), aDir("/b/e", 4)}
	for k := range len(nodes) + 1 {
		for bad, want := range map[string]api.Errno{"": api.ErrDumpNode, "/a": api.ErrDirThere, "/a/x": api.ErrDirKind, "/n/n": api.ErrDirNone, "n": api.ErrPathForm, "/..": api.ErrPathName, "/": api.ErrTreeRoot} {
			if bad == "/a" && k == 0 || bad == "/a/x" && k == 0 {
				continue // it would be the first of that name, or there would be none
			}
			n := aDir(bad, 9)
			if bad == "" {
				n.Kind = 3
			}
			with := append(append(append([]api.Node(nil), nodes[:k]...), n), nodes[k:]...)
			for _, f := range empties(t, 40, 8) {
				fills(t, f, k, want, with...)
				other := inMemory(t, 40, 8)
				fills(t, other, k, api.OK, nodes[:k]...)
				tells(t, f, dumps(t, other)...)
			}
		}
	}
}

func TestSameNamesAFileAhead(t *testing.T) { // P17.2: by its node's Path, letter by letter; a file's that is a name itself, too
	for _, f := range empties(t, 40, 8) {
		fills(t, f, 4, api.OK, aFile("/x", 1, "x"), aName("/y", 2, "/x"), aName("/z", 3, "/y"), aName("/w", 4, "/x"))
		tells(t, f, aFile("/w", 1, "x"), aName("/x", 1, "/w"), aName("/y", 1, "/w"), aName("/z", 1, "/w"))
		// A file that is there, but has no node ahead, is none.
		fills(t, f, 0, api.ErrDumpNode, aName("/v", 1, "/x"))
		fills(t, f, 1, api.ErrDumpNode, aFile("/u", 1, ""), aName("/v", 1, "/x"))
		// Nor does one Fill know what another one was told.
		fills(t, f, 1, api.OK, aFile("/t", 1, ""))
		fills(t, f, 0, api.ErrDumpNode, aName("/v", 1, "/t"))
	}
}

// opsOf are how many a node is made by.
func opsOf(n api.Node) int {
	if n.Kind == api.KindDir || n.Same != "" {
		return 1
	}
	return 2 + len(wanted(string(n.Data)))
}

func TestFillEndsAtAnError(t *testing.T) { // P17.2: at each call: that Code, how many were whole, nothing is asked any more, and what is done stays
	nodes := append(scriptNodes(), aFile("/d/long", 8, some(api.MaxData+1)+zeros(256)+"x"), aDir("/d/e", 9), aName("/d/e/f", 1, "/d/a"), aFile("/d/e/g", 2, zeros(128)+some(300)+zeros(300)+some(2)))
	whole := &teller{Asker: inMemory(t, 1300, 20)}
	fills(t, whole, len(nodes), api.OK, nodes...)
	var made []int // by calls: how many nodes were whole ahead of it
	for k, n := range nodes {
		for range opsOf(n) {
			made = append(made, k)
		}
	}
	if len(made) != len(whole.ops) {
		t.Fatalf("%d calls, want %d:%s", len(whole.ops), len(made), sayAll(whole.ops))
	}
	for k := range whole.ops {
		for _, code := range []api.Errno{api.ErrArg, api.ErrSpaceBlocks, api.ErrDiskDown, api.ErrDumpBytes, 9999, -1} {
			f := inMemory(t, 1300, 20)
			x := &teller{Asker: f, fail: k + 1, code: code}
			fills(t, x, made[k], code, nodes...)
			asked(t, x, whole.ops[:k+1]...)
			left := inMemory(t, 1300, 20)
			done(t, left, whole.ops[:k]...)
			tells(t, f, dumps(t, left)...)
		}
	}
}

func TestFillWithoutRoom(t *testing.T) { // P17.2: the Asker's error, in the midst of a node; what that has left stays
	for _, f := range empties(t, 12, 4) { // 7 data sectors
		fills(t, f, 1, api.ErrSpaceBlocks, aFile("/a", 1, some(200)), aFile("/b", 2, some(100)+zeros(156)+some(300)), aFile("/c", 3, ""))
		tells(t, f, aFile("/a", 1, some(200)), aFile("/b", 2, some(100)+zeros(28)))
	}
	for _, f := range empties(t, 40, 3) {
		fills(t, f, 3, api.ErrSpaceInodes, aFile("/a", 1, ""), aDir("/b", 2), aName("/b/c", 1, "/a"), aFile("/d", 3, ""))
		tells(t, f, aFile("/a", 1, ""), aDir("/b", 2), aName("/b/c", 1, "/a"))
	}
	for _, f := range empties(t, 200, 3) { // 100 entries, and one more
		nodes := []api.Node{aFile("/0", 1, "")}
		for k := 1; k <= 100; k++ {
			nodes = append(nodes, aName("/"+strconv.Itoa(k), 1, "/0"))
		}
		fills(t, f, 100, api.ErrTreeLinks, nodes...)
	}
}

func TestPathsAreTheAskersBusiness(t *testing.T) { // P17.2: whatever they are, they are handed on
	for _, f := range empties(t, 40, 8) {
		for p, want := range map[string]api.Errno{"": api.ErrPathForm, "a": api.ErrPathForm, "/a/": api.ErrPathForm, "//": api.ErrPathForm, "/.": api.ErrPathName, "/a\x00": api.ErrPathName, "/": api.ErrTreeRoot, "/n/a": api.ErrDirNone, strings.Repeat("/a", 201): api.ErrPathForm} {
			x := &teller{Asker: f}
			fills(t, x, 0, want, aFile(p, 3, "x"))
			asked(t, x, create(p, 3))
			x = &teller{Asker: f}
			fills(t, x, 0, want, aDir(p, 3))
			asked(t, x, mkdir(p, 3))
			x = &teller{Asker: f}
			fills(t, x, 1, want, aFile("/x", 1, ""), aName(p, 3, "/x"))
			asked(t, x, create("/x", 1), truncate("/x", 0), link("/x", p))
			done(t, f, unlink("/x"))
		}
		tells(t, f)
	}
}

func TestFillBesideOthers(t *testing.T) { // P17.2: it need not be empty
	for _, f := range empties(t, 40, 8) {
		done(t, f, mkdir("/d", 1), create("/d/a", 2))
		fills(t, f, 2, api.OK, aFile("/d/b", 3, "b"), aName("/c", 3, "/d/b"))
		tells(t, f, aFile("/c", 3, "b"), aDir("/d", 1), aFile("/d/a", 2, ""), aName("/d/b", 3, "/c"))
		fills(t, f, 0, api.ErrDirThere, aDir("/d", 1))
	}
}
