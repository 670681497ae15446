package dump_test

import (
	"testing"

	"breakwater/api"
	"breakwater/dump"
)

// script is what was done to the examples' file system.
func script() []api.Op {
	return []api.Op{mkdir("/d", 5), create("/d/a", 6), write("/d/a", 200, []byte("xyz")), link("/d/a", "/b"), create("/c", 7)}
}

// scriptNodes are what it is told as.
func scriptNodes() []api.Node {
	return []api.Node{aFile("/b", 6, zeros(200)+"xyz"), aFile("/c", 7, ""), aDir("/d", 5), aName("/d/a", 6, "/b")}
}

func TestExamples(t *testing.T) { // P17.1 to P17.4: the chapter's table, line by line
	refuses(t, nil, api.ErrArg)
	fills(t, nil, 0, api.ErrArg)
	for k, f := range empties(t, 100, 20) {
		done(t, f, script()...)
		tells(t, f, scriptNodes()...)

		x := &teller{Asker: empties(t, 100, 20)[k]}
		fills(t, x, 4, api.OK, scriptNodes()...)
		asked(t, x,
			create("/b", 6), write("/b", 128, []byte(zeros(72)+"xyz")), truncate("/b", 203),
			create("/c", 7), truncate("/c", 0),
			mkdir("/d", 5),
			link("/b", "/d/a"),
		)
		tells(t, x, scriptNodes()...)

		fills(t, f, 0, api.ErrDirThere, scriptNodes()...)
		tells(t, f, scriptNodes()...)

		fills(t, empties(t, 100, 20)[k], 1, api.ErrDumpNode, aDir("/x", 1), aName("/y", 1, "/x"))
		fills(t, empties(t, 100, 20)[k], 0, api.ErrDumpNode, api.Node{Path: "/y", Kind: 3, Made: 1})
	}

	c := aFile("/c", 7, "")
	b := "\x01" + "\x07\x00\x00\x00\x00\x00\x00\x00" + "\x02\x00\x00\x00" + "/c" + "\x00\x00\x00\x00" + "\x00\x00\x00\x00"
	stands(t, b, c)
	reads(t, b, c)
	isNone(t, b[:22])
	isNone(t, b+"\x00")
	isNone(t, "\x03"+b[1:])
	stands(t, "")
	reads(t, "")
	if l, e := dump.Read(nil); len(l) > 0 || e != api.OK {
		t.Errorf("Read of nil: %v, %d", l, e)
	}
}
