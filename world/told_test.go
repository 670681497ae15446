package world_test

import (
	"fmt"
	"strings"
	"testing"

	"breakwater/api"
)

func TestRefusedLines(t *testing.T) { // P20.1, the transcript: each line that is refused, and its error's number
	// By a path that is none, and by what is not there.
	for _, r := range rows() {
		for k, part := range strings.Fields(r.form) {
			if part != "PATH" {
				continue
			}
			for p, e := range map[string]api.Errno{"a": api.ErrPathForm, "/a/": api.ErrPathForm, "//": api.ErrPathForm, "/..": api.ErrPathName, "/./a": api.ErrPathName, "/\x00": api.ErrPathName,
				"/" + strings.Repeat("n", 41): api.ErrPathName, "/" + strings.Repeat("n/", 199) + "nn": api.ErrPathForm, "/none/x": api.ErrDirNone, "/f/x": api.ErrDirKind} {
				tells(t, head, deed{"create /f", file(2)}, deed{"mkdir /a", dir(3)}, deed{with(r.line, k, p), no(e)})
			}
		}
	}
	tells(t, head, deed{"mkdir /d", dir(2)}, deed{"create /f", file(3)}, deed{"create /d/e", file(4)},
		deed{"create /f", no(api.ErrDirThere)}, deed{"mkdir /d", no(api.ErrDirThere)}, deed{"create /", no(api.ErrTreeRoot)}, deed{"mkdir / made 5", no(api.ErrTreeRoot)},
		deed{"link /none /b", no(api.ErrDirNone)}, deed{"link /f /d", no(api.ErrDirThere)}, deed{"link /d /b", no(api.ErrFileKind)}, deed{"link /f /", no(api.ErrTreeRoot)},
		deed{"unlink /none", no(api.ErrDirNone)}, deed{"unlink /d", no(api.ErrFileKind)}, deed{"unlink /", no(api.ErrTreeRoot)},
		deed{"rmdir /none", no(api.ErrDirNone)}, deed{"rmdir /f", no(api.ErrDirKind)}, deed{"rmdir /d", no(api.ErrTreeFull)}, deed{"rmdir /", no(api.ErrTreeRoot)},
		deed{"rename /none /b", no(api.ErrDirNone)}, deed{"rename /d /d/b", no(api.ErrTreeLoop)}, deed{"rename /d /f", no(api.ErrDirThere)}, deed{"rename / /b", no(api.ErrTreeRoot)},
		deed{"write /none at 0 00", no(api.ErrDirNone)}, deed{"write /d at 0 00", no(api.ErrFileKind)}, deed{"fill /none at 0 with 1 times 2", no(api.ErrDirNone)}, deed{"fill / at 0 with 1 times 2", no(api.ErrFileKind)},
		deed{"truncate /none to 0", no(api.ErrDirNone)}, deed{"truncate /d to 0", no(api.ErrFileKind)}, deed{"read /none at 0 len 1", no(api.ErrDirNone)}, deed{"read /d at 0 len 1", no(api.ErrFileKind)},
		deed{"stat /none", no(api.ErrDirNone)}, deed{"list /none", no(api.ErrDirNone)}, deed{"list /f", no(api.ErrDirKind)}, deed{"fsync /none", no(api.ErrDirNone)}, deed{"fsync /d", no(api.ErrFileKind)},
		deed{"list /", "ok 2\n  d 2 dir\n  f 3 file"})
	// By numbers out of their bounds.
	tells(t, head, deed{"create /a made 1099511627777", no(api.ErrFSOp)}, deed{"mkdir /a made " + most, no(api.ErrFSOp)}, deed{"create /a made 1099511627776", "ok inode 2 file links 1 size 0 made 1099511627776 blocks 0"},
		deed{"write /a at 136704 00", no(api.ErrFileRange)}, deed{"write /a at " + most + " 00", no(api.ErrFileRange)}, deed{"fill /a at 136703 with 1 times 2", no(api.ErrFileRange)}, deed{"fill /a at " + most + " with 1 times 131073", no(api.ErrFileRange)},
		deed{"fill /a at 136703 with 1 times 1", "ok"}, deed{"truncate /a to 136705", no(api.ErrFileRange)}, deed{"truncate /a to " + most, no(api.ErrFileRange)},
		deed{"read /a at 0 len 131073", no(api.ErrFileRange)}, deed{"read /a at " + most + " len " + most, no(api.ErrFileRange)}, deed{"read /a at " + most + " len 9", "ok -"}, deed{"read /a at 136702 len 131072", "ok 0001"},
		deed{"flush " + most, "ok"}, deed{"flush 40", "ok"}, deed{"arm " + most, "ok"}, deed{"spoil 40 at 0 byte 1", no(api.ErrDiskPlace)})
}

func TestRoomIsOver(t *testing.T) { // P20.1, the transcript: lines that are refused by room
	tells(t, "disk 8 inodes 3\n", deed{"room", "4 0 2"}, deed{"create /a", file(2)}, deed{"fill /a at 0 with 1 times 385", no(api.ErrSpaceBlocks)}, deed{"fill /a at 0 with 1 times 384", "ok"},
		deed{"room", "0 0 1"}, deed{"create /b", no(api.ErrSpaceBlocks)}, deed{"mkdir /b", no(api.ErrSpaceBlocks)}, deed{"link /a /b", no(api.ErrSpaceBlocks)}, deed{"write /a at 384 01", no(api.ErrSpaceBlocks)},
		deed{"rename /a /b", no(api.ErrSpaceBlocks)}, deed{"truncate /a to 257", "ok"}, deed{"truncate /a to 256", "ok"}, deed{"room", "1 0 1"}, deed{"mkdir /d", dir(3)}, deed{"create /e", no(api.ErrSpaceInodes)},
		deed{"mkdir /e", no(api.ErrSpaceInodes)}, deed{"rename /a /b", no(api.ErrSpaceBlocks)}, deed{"rename /a /d/b", no(api.ErrSpaceBlocks)}, deed{"rmdir /d", "ok"}, deed{"rename /a /b", "ok"}, deed{"list /", "ok 1\n  b 2 file"})
	deeds := []deed{{"create /0", file(2)}}
	for k := 1; k < 100; k++ {
		deeds = append(deeds, deed{fmt.Sprintf("link /0 /%d", k), "ok"})
	}
	tells(t, "disk 200 inodes 3\n", append(deeds, deed{"link /0 /100", no(api.ErrTreeLinks)}, deed{"rename /99 /100", no(api.ErrTreeLinks)}, deed{"stat /50", "ok inode 2 file links 100 size 0 made 0 blocks 0"})...)
}

func TestOperations(t *testing.T) { // P20.1, the transcript: what is told of each operation
	tells(t, head,
		deed{"create /a made 5", "ok inode 2 file links 1 size 0 made 5 blocks 0"}, deed{"create /b made 0", file(3)},
		deed{"mkdir /d made 1099511627776", "ok inode 4 dir links 1 size 0 made 1099511627776 blocks 0"}, deed{"mkdir /d/e", dir(5)},
		deed{"link /a /d/l", "ok"}, deed{"rename /b /d/m", "ok"}, deed{"write /a at 130 00ff", "ok"}, deed{"fill /d/m at 0 with 7 times 300", "ok"},
		deed{"stat /a", "ok inode 2 file links 2 size 132 made 5 blocks 1"}, deed{"stat /d/m", "ok inode 3 file links 1 size 300 made 0 blocks 3"},
		deed{"stat /", "ok inode 1 dir links 1 size 384 made 0 blocks 3"}, deed{"stat /d", "ok inode 4 dir links 1 size 384 made 1099511627776 blocks 3"},
		deed{"read /d/l at 128 len 99", "ok 000000ff"}, deed{"read /a at 131 len 1", "ok ff"}, deed{"read /a at 0 len 0", "ok -"}, deed{"read /a at 132 len 9", "ok -"}, deed{"read /a at 900 len 9", "ok -"},
		deed{"list /", "ok 2\n  a 2 file\n  d 4 dir"}, deed{"list /d", "ok 3\n  e 5 dir\n  l 2 file\n  m 3 file"}, deed{"list /d/e", "ok 0"},
		deed{"truncate /d/m to 2", "ok"}, deed{"read /d/m at 0 len 9", "ok 0707"}, deed{"truncate /d/m to 5", "ok"}, deed{"read /d/m at 0 len 9", "ok 0707000000"},
		deed{"unlink /a", "ok"}, deed{"stat /d/l", "ok inode 2 file links 1 size 132 made 5 blocks 1"}, deed{"rmdir /d/e", "ok"}, deed{"fsync /d/l", "ok"}, deed{"sync", "ok"},
		deed{"list /d", "ok 2\n  l 2 file\n  m 3 file"}, deed{"rename /d /x", "ok"}, deed{"list /", "ok 1\n  x 4 dir"}, deed{"create /n", file(5)})
}

func TestRoomAndDirty(t *testing.T) { // P20.1, the transcript: what is told of the space, and of the cache
	tells(t, head, deed{"room", "31 0 7"}, deed{"dirty", "0"}, deed{"create /a", file(2)}, deed{"room", "30 0 6"}, deed{"dirty", "3 1 2 9"},
		deed{"flush 1", "ok"}, deed{"flush 9", "ok"}, deed{"flush 3", "ok"}, deed{"flush 40", "ok"}, deed{"flush 0", "ok"}, deed{"dirty", "3 1 2 9"},
		deed{"flush 2", "ok landed"}, deed{"flush 2", "ok"}, deed{"dirty", "2 1 9"}, deed{"flush 9", "ok landed"}, deed{"flush 1", "ok landed"}, deed{"dirty", "0"}, deed{"flush 1", "ok"},
		deed{"fill /a at 0 with 1 times 200", "ok"}, deed{"dirty", "3 2 10 11"}, deed{"fsync /a", "ok"}, deed{"dirty", "0"}, deed{"room", "28 0 6"},
		deed{"unlink /a", "ok"}, deed{"dirty", "2 2 9"}, deed{"room", "30 2 7"}, deed{"sync", "ok"}, deed{"room", "30 0 7"}, deed{"dirty", "0"})
}

func TestDump(t *testing.T) { // P20.1, the transcript: what is told of the tree
	tells(t, head, deed{"dump", "0"}, deed{"mkdir /d made 5", "ok inode 2 dir links 1 size 0 made 5 blocks 0"}, deed{"dump", "1\n  /d dir made 5"}, deed{"mkdir /d/e", dir(3)}, deed{"mkdir /c", dir(4)},
		deed{"dump", "3\n  /c dir made 0\n  /d dir made 5\n  /d/e dir made 0"},
		deed{"create /d/e/f made 7", "ok inode 5 file links 1 size 0 made 7 blocks 0"}, deed{"fill /d/e/f at 1000 with 1 times 3", "ok"}, deed{"link /d/e/f /b", "ok"}, deed{"link /b /d/z", "ok"}, deed{"create /a", file(6)},
		deed{"dump", "7\n  /a file made 0 size 0\n  /b file made 7 size 1003\n  /c dir made 0\n  /d dir made 5\n  /d/e dir made 0\n  /d/e/f file made 7 same /b\n  /d/z file made 7 same /b"},
		deed{"unlink /b", "ok"}, deed{"dump", "6\n  /a file made 0 size 0\n  /c dir made 0\n  /d dir made 5\n  /d/e dir made 0\n  /d/e/f file made 7 size 1003\n  /d/z file made 7 same /d/e/f"})
}

// deep are deeds behind which a path has more than 400 bytes: a row of directories is made, and moved below another one.
func deep() []deed {
	var deeds []deed
	name := "/" + strings.Repeat("n", 39)
	for k := range 9 {
		deeds = append(deeds, deed{"mkdir " + strings.Repeat(name, k+1), dir(2 + k)})
	}
	return append(deeds, deed{"mkdir /x", dir(11)}, deed{"mkdir /x" + name, dir(12)}, deed{"create /x" + name + name, file(13)}, deed{"dump", deepDump(name)}, deed{"rename /x " + strings.Repeat(name, 9) + "/x", "ok"})
}

func deepDump(name string) string {
	b := "12"
	for k := range 9 {
		b += "\n  " + strings.Repeat(name, k+1) + " dir made 0"
	}
	return b + "\n  /x dir made 0\n  /x" + name + " dir made 0\n  /x" + name + name + " file made 0 size 0"
}

func TestADumpThatIsRefused(t *testing.T) { // P20.1, the transcript: of a tree one of whose paths is too long there is no dump
	tells(t, "disk 100 inodes 20\n", append(deep(), deed{"dump", no(api.ErrPathForm)}, deed{"list /", "ok 1\n  " + strings.Repeat("n", 39) + " 2 dir"}, deed{"sync", "ok"}, deed{"cut", "ok 0"}, deed{"dump", no(api.ErrPathForm)})...)
}

func TestNames(t *testing.T) { // the transcript: names and paths with their signs
	for name, want := range map[string]string{
		"a": "a", "!": "!", "~": "~", "...": "...", "\x7f": "%7f", "\x01": "%01", "\x1f": "%1f", "\r": "%0d", "%": "%25", "%41": "%2541", "%%": "%25%25", "\x80": "%80", "\xff": "%ff", "\xa0": "%a0",
		"é": "%c3%a9", "a\u20acb": "a%e2%82%acb", "\U0001f600": "%f0%9f%98%80", "\ufffd": "%ef%bf%bd", "\xef\xbf": "%ef%bf", "\xc3(": "%c3(", "(\xa9\xc3": "(%a9%c3", "\xed\xa0\x80": "%ed%a0%80", "\xf4\x90\x80\x80": "%f4%90%80%80", "\xc0\x80": "%c0%80",
		"\"\\'": "\"\\'", "a=b;c": "a=b;c", "\v\f\b": "%0b%0c%08",
	} {
		tells(t, head, deed{"create /" + name, file(2)}, deed{"list /", "ok 1\n  " + want + " 2 file"}, deed{"dump", "1\n  /" + want + " file made 0 size 0"},
			deed{"mkdir /zz", dir(3)}, deed{"link /" + name + " /zz/" + name, "ok"}, deed{"dump", dumpOfTwo(name, want)})
	}
	for c := 1; c < 256; c++ {
		name := "<" + string([]byte{byte(c)}) + ">"
		if strings.ContainsAny(name, " \t\n#/") {
			continue
		}
		want := name
		if c < 33 || c > 126 || c == 37 {
			want = fmt.Sprintf("<%%%02x>", c)
		}
		tells(t, head, deed{"mkdir /" + name, dir(2)}, deed{"list /", "ok 1\n  " + want + " 2 dir"}, deed{"dump", "1\n  /" + want + " dir made 0"})
	}
}

// dumpOfTwo is that of a file with one name in the root and in zz, which stands behind or ahead.
func dumpOfTwo(name, want string) string {
	if name < "zz" {
		return fmt.Sprintf("3\n  /%s file made 0 size 0\n  /zz dir made 0\n  /zz/%s file made 0 same /%s", want, want, want)
	}
	return fmt.Sprintf("3\n  /zz dir made 0\n  /zz/%s file made 0 size 0\n  /%s file made 0 same /zz/%s", want, want, want)
}

func TestNamesThatNoLineSays(t *testing.T) { // the transcript is lines, whatever names have come about
	for c, want := range map[int]string{10: "%0ab", 32: "%20b", 9: "%09b", 35: "#b", 1: "%01b", 266: "%0ab", 37: "%25b"} {
		tells(t, head, deed{"create /ab", file(2)}, deed{"link /ab /x", "ok"}, deed{"sync", "ok"}, deed{fmt.Sprintf("spoil 9 at 5 byte %d", c), "ok"}, deed{"cut", "ok 0"},
			deed{"list /", "ok 2\n  " + want + " 2 file\n  x 2 file"}, deed{"dump", "2\n  /" + want + " file made 0 size 0\n  /x file made 0 same /" + want})
	}
	tells(t, head, deed{"mkdir /ab", dir(2)}, deed{"create /ab/c", file(3)}, deed{"sync", "ok"}, deed{"spoil 9 at 133 byte 10", "ok"}, deed{"cut", "ok 0"}, deed{"dump", "2\n  /%0ab dir made 0\n  /%0ab/c file made 0 size 0"})
}
