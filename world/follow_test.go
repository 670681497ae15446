package world_test

import (
	"strconv"
	"strings"
	"testing"

	"breakwater/api"
	"breakwater/world"
)

// scripts are some that are played: with all lines of the table, refused ones, the power going, spoilt disks.
func scripts() []string {
	all := head + "create /a\nmkdir /d\nfill /a at 100 with 1 times 300\n"
	for _, r := range rows() {
		all += r.line + "\n"
	}
	return []string{
		head,
		head + "mkdir /d made 5\ncreate /d/f\nwrite /d/f at 126 01020304\nread /d/f at 125 len 9\nstat /d/f\ndirty\nsync\nroom\nrename /d/f /g\narm 0\nsync\ncut\nlist /\n",
		all + "cut\ndump\nlist /\n",
		"# a script\ndisk 8 inodes 3\n\ncreate /a # once\nfill /a at 0 with 1 times 513\nfill /a at 0 with 1 times 500\n  dump\nunlink /a\narm 2\ncreate /b\nlist /\narm 1\ncut\nlist /\nspoil 0 at 0 byte 0\ndump\ncut\ndump\nspoil 9 at 0 byte 0\nspoil 0 at 0 byte 66\ncut\ndump\n",
		script(head, deep()) + "dump\nlist /\ncut\ndump",
	}
}

func TestTwice(t *testing.T) { // P20.2: a transcript hangs on the script alone
	for _, s := range scripts() {
		transcriptAsTold(t, s)
		whole := transcript(t, s)
		done := make(chan string)
		for range 4 {
			go func() {
				x, _, _ := world.Run(s)
				done <- x
			}()
		}
		for range 4 {
			if x := <-done; x != whole {
				t.Errorf("script %s: %s, and %s", short(s), short(x), short(whole))
			}
		}
		world.Run("disk 100 inodes 9\ncreate /q\nsync\narm 0\nrename /q /p\nsync\n")
		if x := transcript(t, s); x != whole {
			t.Errorf("script %s: %s, and then %s", short(s), short(whole), short(x))
		}
	}
}

// moved is a transcript in which the numbers ahead are others, by a table.
func moved(transcript string, to map[int]int) string {
	var b strings.Builder
	for _, l := range strings.SplitAfter(transcript, "\n") {
		number, rest, _ := strings.Cut(l, " ")
		if n, err := strconv.Atoi(number); err == nil {
			l = strconv.Itoa(to[n]) + " " + rest
		}
		b.WriteString(l)
	}
	return b.String()
}

func TestLinesThatSayNothing(t *testing.T) { // P20.2: put in anywhere, they change the numbers ahead alone
	for _, s := range scripts() {
		whole := transcript(t, s)
		lines := strings.Split(strings.TrimSuffix(s, "\n"), "\n")
		for _, nothing := range [][]string{{""}, {"# sync"}, {" \t"}, {"", "#", "\t# disk 40 inodes 8", "#\x00\xff#"}} {
			for at := 0; at <= len(lines)+1; at++ { // at the end of all: everywhere
				var out []string
				to := map[int]int{}
				for k, l := range lines {
					if k == at || at > len(lines) {
						out = append(out, nothing...)
					}
					out = append(out, l)
					to[k+1] = len(out)
				}
				if at >= len(lines) {
					out = append(out, nothing...)
				}
				for _, end := range []string{"", "\n"} {
					if got := transcript(t, strings.Join(out, "\n")+end); got != moved(whole, to) {
						t.Errorf("script %s with %q at %d: %s, want %s", short(s), nothing, at, short(got), short(moved(whole, to)))
					}
				}
			}
		}
	}
}

func TestCutScripts(t *testing.T) { // P20.2: cut behind a line, a script has a transcript that begins the whole one's
	for _, s := range scripts() {
		whole := transcript(t, s)
		spoken := false
		for k, last := 0, ""; k < len(s); k++ {
			if s[k] != '\n' {
				continue
			}
			spoken = spoken || strings.HasPrefix(s[strings.LastIndexByte(s[:k], '\n')+1:k], "disk")
			if !spoken {
				isWrong(t, s[:k], 1+strings.Count(s[:k], "\n"))
				continue
			}
			for _, part := range []string{s[:k], s[:k+1]} {
				got := transcript(t, part)
				if !strings.HasPrefix(whole, got) || !strings.HasPrefix(got, last) || got != "" && got[len(got)-1] != '\n' {
					t.Errorf("script %s has %s, the whole one %s", short(part), short(got), short(whole))
				}
				last = got
			}
		}
	}
}

func TestAnyTextIsAnswered(t *testing.T) { // R1: whatever it is given, Run ends and panics not
	for _, s := range []string{"\x00", "\xff\xfe", strings.Repeat("\x00", 65536), strings.Repeat("disk ", 13107), strings.Repeat("\n", 65536), strings.Repeat(head, 2000), strings.Repeat("#\n", 32768), head + strings.Repeat("x ", 32000), "disk 40 inodes 8" + strings.Repeat("\t", 65520)} {
		got, at, e := world.Run(s)
		if want, line, code := otherRun(s); got != want || at != line || e != code {
			t.Errorf("script %s: %s %d %d, want %s %d %d", short(s), short(got), at, e, short(want), line, code)
		}
	}
	if s, at, e := world.Run(strings.Repeat(" ", 1<<24)); s != "" || at != 0 || e != api.ErrWorldLong {
		t.Errorf("%s %d %d", short(s), at, e)
	}
}
