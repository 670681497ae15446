package world_test

import (
	"strings"
	"testing"

	"breakwater/api"
)

func TestExample(t *testing.T) { // P20.1, P20.2: the chapter's script and its transcript, line by line
	tells(t, head, []deed{
		{"mkdir /d made 5", "ok inode 2 dir links 1 size 0 made 5 blocks 0"},
		{"create /d/f", "ok inode 3 file links 1 size 0 made 0 blocks 0"},
		{"write /d/f at 126 01020304", "ok"},
		{"read /d/f at 125 len 9", "ok 0001020304"},
		{"stat /d/f", "ok inode 3 file links 1 size 130 made 0 blocks 2"},
		{"dirty", "7 1 2 3 9 10 11 12"},
		{"sync", "ok"},
		{"room", "27 0 5"},
		{"rename /d/f /g", "ok"},
		{"arm 0", "ok"},
		{"sync", "refused 22"},
		{"cut", "ok 1"},
		{"list /", "ok 1\n  d 2 dir"},
	}...)
	isWrong(t, "disk 7 inodes 2", 1)
	isWrong(t, "sync", 1)
	isWrong(t, "", 1)
}

func TestExamplesOfTheWhole(t *testing.T) { // P20.1, W10: DOC.md's examples, as scripts
	tells(t, head, deed{"list /", "ok 0"}, deed{"room", "31 0 7"})
	tells(t, head, deed{"create /a made 7", "ok inode 2 file links 1 size 0 made 7 blocks 0"}, deed{"cut", "ok 0"}, deed{"list /", "ok 0"})
	tells(t, head, deed{"create /a", file(2)},
		deed{"flush 1", "ok"}, deed{"flush 2", "ok landed"}, deed{"flush 9", "ok landed"}, deed{"flush 1", "ok landed"},
		deed{"cut", "ok 0"}, deed{"list /", "ok 1\n  a 2 file"})
	tells(t, head, deed{"create /a", file(2)}, deed{"write /a at 126 01020304", "ok"}, deed{"read /a at 125 len 9", "ok 0001020304"},
		deed{"stat /a", "ok inode 2 file links 1 size 130 made 0 blocks 2"})
	tells(t, head, deed{"create /a", file(2)}, deed{"write /a at 1536 01", "ok"}, deed{"stat /a", "ok inode 2 file links 1 size 1537 made 0 blocks 2"},
		deed{"truncate /a to 0", "ok"}, deed{"stat /a", file(2)}, deed{"room", "30 0 6"})
	tells(t, head, deed{"create /a", file(2)}, deed{"link /a /b", "ok"}, deed{"sync", "ok"}, deed{"unlink /a", "ok"}, deed{"cut", "ok 0"},
		deed{"stat /a", "ok inode 2 file links 2 size 0 made 0 blocks 0"}, deed{"stat /b", "ok inode 2 file links 2 size 0 made 0 blocks 0"})
	tells(t, "disk 8 inodes 2\n", deed{"create /a", file(2)}, deed{"fill /a at 0 with 1 times 512", "ok"}, deed{"write /a at 512 01", no(api.ErrSpaceBlocks)},
		deed{"unlink /a", "ok"}, deed{"create /b", file(2)}, deed{"fill /b at 0 with 1 times 512", "ok"})
	tells(t, head, deed{"mkdir /d", dir(2)}, deed{"mkdir /d/e", dir(3)}, deed{"rename /d /d/e/x", no(api.ErrTreeLoop)}, deed{"rmdir /d", no(api.ErrTreeFull)},
		deed{"unlink /d", no(api.ErrFileKind)}, deed{"create /d/", no(api.ErrPathForm)}, deed{"create /d", no(api.ErrDirThere)}, deed{"rmdir /", no(api.ErrTreeRoot)})
}

func TestAMovedFileIsNotLost(t *testing.T) { // W3, W10: DOC.md's example 7: the power goes behind each number of writes
	begin := head + "mkdir /d\ncreate /d/f\nsync\nrename /d/f /f\nrmdir /d\n"
	found := map[string]int{}
	for n := range 12 {
		s := transcript(t, begin+"arm "+string(rune('0'+n%10))+"\nsync\ncut\nstat /f\nstat /d\nstat /d/f\n")
		names := ""
		for k, p := range []string{"10 stat", "11 stat", "12 stat"} {
			if strings.Contains(s, "\n"+p+" ok") {
				names += []string{"/f ", "/d ", "/d/f "}[k]
			}
		}
		found[names]++
		if names != "/f " && names != "/f /d " && names != "/d /d/f " && names != "/f /d /d/f " {
			t.Errorf("behind %d writes there are %s", n, names)
		}
	}
	if len(found) < 3 {
		t.Errorf("found: %v", found)
	}
}
