package world_test

import (
	"fmt"
	"strings"
	"testing"

	"breakwater/api"
	"breakwater/world"
)

const (
	// head is the disk's line of most scripts: its data sectors are 9 to 39.
	head = "disk 40 inodes 8\n"
	// most is the greatest number that a line may say.
	most = "4611686018427387904"
)

// short tells a text shortly.
func short(s string) string {
	if len(s) > 600 {
		return fmt.Sprintf("%q .. (%d bytes)", s[:600], len(s))
	}
	return fmt.Sprintf("%q", s)
}

// runs holds Run to what it should answer, and to what is told of the script in another way.
func runs(t *testing.T, script, want string, at int, e api.Errno) {
	t.Helper()
	got, line, code := world.Run(script)
	if got != want || line != at || code != e {
		t.Errorf("script %s\n%s %d %d\nwanted\n%s %d %d", short(script), short(got), line, code, short(want), at, e)
	}
	if s, l, c := otherRun(script); s != want || l != at || c != e {
		t.Errorf("script %s\ntold in another way:\n%s %d %d\nwanted\n%s %d %d", short(script), short(s), l, c, short(want), at, e)
	}
}

// plays holds a script to its transcript.
func plays(t *testing.T, script, want string) {
	t.Helper()
	runs(t, script, want, 0, api.OK)
}

// isWrong holds a script to being refused at a line.
func isWrong(t *testing.T, script string, at int) {
	t.Helper()
	runs(t, script, "", at, api.ErrWorldLine)
}

// isLong holds a script to being refused as too long.
func isLong(t *testing.T, script string) {
	t.Helper()
	runs(t, script, "", 0, api.ErrWorldLong)
}

// transcript is what a script that is played has.
func transcript(t *testing.T, script string) string {
	t.Helper()
	s, at, e := world.Run(script)
	if at != 0 || e != api.OK {
		t.Fatalf("script %s: line %d, %d", short(script), at, e)
	}
	return s
}

// deed is a line, and what is told of it behind its number and its first word.
type deed struct{ line, told string }

// script are the lines of deeds, behind the disk's.
func script(first string, deeds []deed) string {
	for _, d := range deeds {
		first += d.line + "\n"
	}
	return first
}

// tells holds the deeds behind a disk's line to what is told of them, line by line.
func tells(t *testing.T, first string, deeds ...deed) {
	t.Helper()
	var want strings.Builder
	for k, d := range deeds {
		spoken, _, _ := strings.Cut(d.line, "#")
		fmt.Fprintf(&want, "%d %s %s\n", k+2, strings.Fields(spoken)[0], d.told)
	}
	plays(t, script(first, deeds), want.String())
}

// file and dir are what is told of those that are made.
func file(i int) string { return fmt.Sprintf("ok inode %d file links 1 size 0 made 0 blocks 0", i) }
func dir(i int) string  { return fmt.Sprintf("ok inode %d dir links 1 size 0 made 0 blocks 0", i) }

// no is what is told of what is refused.
func no(e api.Errno) string { return fmt.Sprintf("refused %d", int(e)) }

// row is a line of the chapter's table: its form, and one that has it.
type row struct{ form, line string }

// rows are the table.
func rows() []row {
	return []row{
		{"create PATH", "create /a"}, {"create PATH made N", "create /a made 5"},
		{"mkdir PATH", "mkdir /d"}, {"mkdir PATH made N", "mkdir /d made 5"},
		{"link PATH PATH", "link /a /b"}, {"rename PATH PATH", "rename /a /b"},
		{"unlink PATH", "unlink /a"}, {"rmdir PATH", "rmdir /d"},
		{"write PATH at N HEX", "write /a at 126 01020304"},
		{"fill PATH at N with N times N", "fill /a at 7 with 263 times 9"},
		{"truncate PATH to N", "truncate /a to 3"},
		{"read PATH at N len N", "read /a at 1 len 9"},
		{"stat PATH", "stat /a"}, {"list PATH", "list /"},
		{"sync", "sync"}, {"fsync PATH", "fsync /a"}, {"flush N", "flush 1"},
		{"room", "room"}, {"dirty", "dirty"}, {"dump", "dump"},
		{"arm N", "arm 5"}, {"cut", "cut"}, {"spoil N at N byte N", "spoil 0 at 128 byte 66"},
	}
}

// with is a line in which the word at a place is another one.
func with(line string, place int, word string) string {
	words := strings.Fields(line)
	words[place] = word
	return strings.Join(words, " ")
}

// steps answers numbers below a limit, the same ones in every run.
func steps(seed uint32) func(limit int) int {
	return func(limit int) int {
		seed = seed*1664525 + 1013904223
		return int(seed>>8) % limit
	}
}
