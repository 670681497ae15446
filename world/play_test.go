package world_test

import (
	"fmt"
	"strconv"
	"strings"
	"testing"

	"breakwater/api"
	"breakwater/world"
)

// game makes scripts at random: few names and places, so that they meet.
type game struct {
	next    func(int) int
	sectors int
	inodes  int
}

func (g *game) one(all ...string) string { return all[g.next(len(all))] }

func (g *game) path() string {
	if g.next(20) == 0 {
		return g.one("/", "/", "a", "//", "/..", "/a/", "/\xff%", "/é\x01", "/none", "/"+strings.Repeat("n", 41), "/"+strings.Repeat("n/", 250))
	}
	p := ""
	for range 1 + g.next(3) {
		p += "/" + g.one("a", "b", "c", "d", "%\x7f", "\xfe")
		if g.next(2) == 0 {
			break
		}
	}
	return p
}

func (g *game) place() string {
	return strconv.Itoa(max(0, []int{0, 128, 1536, 5632, 136704}[g.next(5)]+g.next(7)-3))
}

func (g *game) count() string {
	return g.one("0", "1", "2", "127", "128", "129", "300", "513", "2000", "131072", "131073")
}

func (g *game) number() string {
	return g.one("0", "1", "2", "5", "9", "128", "255", "256", "1000", "1099511627776", "1099511627777", most)
}

func (g *game) sector() string {
	if g.next(12) == 0 {
		return g.one(strconv.Itoa(g.sectors), "4096", most)
	}
	return strconv.Itoa(g.next(g.sectors))
}

func (g *game) data() string {
	return strings.Repeat(g.one("00", "ff", "0102", "a0b1c2"), 1+g.next(90))
}

// line is one of the table's.
func (g *game) line() string {
	switch g.next(30) {
	case 0, 1, 2:
		return "create " + g.path()
	case 3:
		return "create " + g.path() + " made " + g.number()
	case 4, 5:
		return "mkdir " + g.path()
	case 6:
		return "mkdir " + g.path() + " made " + g.number()
	case 7, 8:
		return "link " + g.path() + " " + g.path()
	case 9, 10, 11:
		return "rename " + g.path() + " " + g.path()
	case 12, 13:
		return "unlink " + g.path()
	case 14:
		return "rmdir " + g.path()
	case 15, 16:
		return "write " + g.path() + " at " + g.place() + " " + g.data()
	case 17:
		return "fill " + g.path() + " at " + g.place() + " with " + g.number() + " times " + g.count()
	case 18:
		return "truncate " + g.path() + " to " + g.place()
	case 19:
		return "read " + g.path() + " at " + g.place() + " len " + g.count()
	case 20:
		return "stat " + g.path()
	case 21:
		return "list " + g.one("/", g.path())
	case 22:
		return g.one("sync", "sync", "cut")
	case 23:
		return "fsync " + g.path()
	case 24, 25:
		return "flush " + g.sector()
	case 26:
		return "sync"
	case 27:
		return g.one("room", "dirty", "dump")
	case 28:
		return g.one("arm "+strconv.Itoa(g.next(9)), "cut")
	}
	if g.next(3) > 0 {
		return "dump"
	}
	return "spoil " + g.sector() + " at " + g.one("0", "1", "4", "5", "16", "130", most) + " byte " + g.number() + "\ncut"
}

// script is one of so many lines, in which some say nothing, and some have further blanks.
func (g *game) script(lines int) string {
	var b strings.Builder
	fmt.Fprintf(&b, "disk %d inodes %d\n", g.sectors, g.inodes)
	for range lines {
		l := g.line()
		switch g.next(8) {
		case 0:
			l = g.one("", " ", "#", "\t# x\n") + "\n" + l
		case 1:
			l = " \t" + strings.ReplaceAll(l, " ", g.one("  ", "\t", " \t ")) + " # " + l[:1]
		}
		b.WriteString(l + "\n")
	}
	return b.String()
}

func gameOf(seed int) *game {
	next := steps(uint32(seed))
	sizes := [][2]int{{40, 8}, {8, 6}, {60, 12}, {24, 6}, {200, 30}, {1400, 5}}
	s := sizes[seed%len(sizes)]
	return &game{next: next, sectors: s[0], inodes: s[1]}
}

func TestPlays(t *testing.T) { // P20.1, W10: scripts of all lines, held to what is told in another way
	oks, nos, lost, refused := 0, 0, 0, 0
	for seed := range 400 {
		s := gameOf(seed).script(60)
		got, at, e := world.Run(s)
		want, line, code := otherRun(s)
		if got != want || at != line || e != code || e != api.OK {
			t.Fatalf("seed %d, script %s\n%s %d %d\nwanted\n%s %d %d", seed, s, got, at, e, want, line, code)
		}
		oks += strings.Count(got, " ok")
		nos += strings.Count(got, " refused ")
		lost += strings.Count(got, " refused 22\n")
		refused += strings.Count(got, "cut refused")
	}
	if oks < 4000 || nos < 1000 || lost < 100 || refused < 2 {
		t.Errorf("%d ok, %d refused, %d losses of power, %d cuts refused", oks, nos, lost, refused)
	}
}

// turned is a script in which a byte is another one, or a word or a line is gone, or there twice.
func (g *game) turned(s string) string {
	at := g.next(len(s))
	switch g.next(5) {
	case 0:
		return s[:at] + g.one(" ", "#", "0", "x", "\n", "\r", "\t", "-", "+", "\x00", "\xa0", "A", "1") + s[at+1:]
	case 1:
		return s[:at] + s[at+1:]
	case 2:
		return s[:at] + g.one(" ", "#", "0", "x", "\n", "\r", "\t", "9", "999999999999999999", "/a", " /a", "#\n") + s[at:]
	}
	sep := g.one(" ", "\n")
	words := strings.Split(s, sep)
	k := g.next(len(words))
	out := append([]string{}, words[:k]...)
	if g.next(2) == 0 {
		out = append(out, words[g.next(len(words))], words[k])
	}
	return strings.Join(append(out, words[k+1:]...), sep)
}

func TestTurnedScripts(t *testing.T) { // P20.1: scripts of which something is turned: which line is refused, if one is
	played, wrong := 0, 0
	for seed := range 6000 {
		g := gameOf(seed)
		g.sectors, g.inodes = 40, 8
		s := g.script(6)
		for range 1 + g.next(2) {
			s = g.turned(s + " ")
		}
		got, at, e := world.Run(s)
		want, line, code := otherRun(s)
		if got != want || at != line || e != code {
			t.Fatalf("seed %d, script %q\n%s %d %d\nwanted\n%s %d %d", seed, s, got, at, e, want, line, code)
		}
		if e == api.OK {
			played++
		} else {
			wrong++
		}
	}
	if played < 500 || wrong < 500 {
		t.Errorf("%d played, %d wrong", played, wrong)
	}
}
