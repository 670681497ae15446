package world_test

import (
	"strings"
	"testing"

	"breakwater/api"
)

func TestForms(t *testing.T) { // P20.1: each line of the table; with a word less, a word more, another one
	for _, r := range rows() {
		words := strings.Fields(r.line)
		isNone := func(line string) { isWrong(t, head+line+"\n", 2) }
		s := transcript(t, head+r.line)
		if !strings.HasPrefix(s, "2 "+words[0]+" ") || !strings.HasSuffix(s, "\n") {
			t.Errorf("%s: %q", r.line, s)
		}
		plays(t, head+"\t"+strings.Join(words, "  \t ")+" \t# "+r.line, s)
		for k := range words {
			if len(words) > 1 {
				isNone(strings.Join(append(append([]string{}, words[:k]...), words[k+1:]...), " "))
			}
			for _, w := range []string{"x", "/z", "0", "at", "made"} {
				line := strings.Join(append(append(append([]string{}, words[:k]...), w), words[k:]...), " ")
				if line != "create /a made 5" {
					isNone(line)
				}
			}
		}
		isNone(r.line + " x")
		isNone(r.line + " " + r.line)
		for k, part := range strings.Fields(r.form) {
			if part == strings.ToUpper(part) {
				continue
			}
			for _, w := range []string{"x", strings.ToUpper(part), strings.ToUpper(part[:1]) + part[1:], part + "s", part[1:] + "e", part + "\r", part + "\x00", part + "\xa0", "\xff" + part, part + ".", "disk", "inodes", "5"} {
				isNone(with(r.line, k, w))
			}
		}
	}
	for _, line := range []string{"disk", "PATH", "N", "create PATH made N", "unlink /a /b", "sync /a", "flush", "flush /a", "arm", "spoil 0", "made 5", "help", "read /a", "fill /a at 0 01", "write /a at 0 with 1 times 2", "rename /a to /b", "\xff", "\x00", "%", "-"} {
		isWrong(t, head+line, 2)
	}
}

func TestNumbers(t *testing.T) { // P20.1: numbers, at each place where one stands
	goods := []string{"0", "1", "9", "10", "127", "128", "131073", "2147483648", "4294967296", "4611686018427387903", most}
	bads := []string{
		"00", "01", "007", "+1", "-1", "-0", "+0", "1.0", "1e3", "0x1", "0b1", "0o7", "1_0", "1,0", "1-", "a", "1a", "a1", "/a", "N", "\xb2", "١", "1\r", "1\x00", "\xa01", "1\u00a0",
		"4611686018427387905", "9223372036854775807", "9223372036854775808", "18446744073709551616", "18446744073709551617", "04611686018427387904",
		strings.Repeat("9", 500), strings.Repeat("0", 500), "1" + strings.Repeat("0", 64),
	}
	for _, r := range rows() {
		for k, part := range strings.Fields(r.form) {
			if part != "N" {
				continue
			}
			for _, n := range goods {
				line := with(r.line, k, n)
				// What a fill asks for at last is bounded; that is told elsewhere.
				if strings.HasPrefix(line, "fill") && k == 7 && len(n) > 6 {
					continue
				}
				transcriptAsTold(t, head+"create /a\n"+line+"\n")
			}
			for _, n := range bads {
				isWrong(t, head+with(r.line, k, n), 2)
				isWrong(t, head+"room\n"+with(r.line, k, n)+"\nx\n", 3)
			}
		}
	}
	for _, n := range bads {
		isWrong(t, "disk "+n+" inodes 8", 1)
		isWrong(t, "disk 40 inodes "+n+"\nx\n", 1)
	}
}

// transcriptAsTold holds a script that is played to what is told in another way.
func transcriptAsTold(t *testing.T, script string) {
	t.Helper()
	plays(t, script, transcript(t, script))
}

func TestHex(t *testing.T) { // P20.1: HEX
	for _, x := range []string{"00", "ff", "0123456789abcdef", "0000", "ffff", "1234", "ab", strings.Repeat("5a", 29*128), strings.Repeat("5a", 29*128+1), strings.Repeat("5a", 30000)} {
		tells(t, head, deed{"create /a", file(2)}, deed{"write /a at 0 " + x, toldOfWriting(x)}, deed{"read /a at 0 len 100", toldOfReading(x)})
	}
	for _, x := range []string{"0", "000", "012", "0A", "AB", "aB", "Ff", "0g", "g0", "0x00", "00 00", "0-", "-", "+1", "é", "a\xff", "\xff\xff", "0\x00", "00\r", "\xa000", "zz", "--", "/a", "HEX", strings.Repeat("5", 59999), strings.Repeat("5a", 29999) + "5G"} {
		isWrong(t, head+"write /a at 0 "+x, 2)
	}
	isWrong(t, head+"write /a at 0 #00", 2)
	isWrong(t, head+"write /a at 0 0#0", 2)
	tells(t, head, deed{"create /a", file(2)}, deed{"write /a at 0 00#0", "ok"}, deed{"read /a at 0 len 9", "ok 00"})
}

// isRoomFor tells whether the smaller disk has room for such a file: the root's slot has one of its 31 data sectors, the table another one.
func isRoomFor(x string) bool { return len(x)/2 <= 29*128 }

func toldOfWriting(x string) string {
	if !isRoomFor(x) {
		return no(api.ErrSpaceBlocks)
	}
	return "ok"
}

func toldOfReading(x string) string {
	if !isRoomFor(x) {
		return "ok -"
	}
	return "ok " + x[:min(len(x), 200)]
}

func TestFill(t *testing.T) { // P20.1: how many times, and which byte
	first := "disk 4096 inodes 8\n"
	for _, c := range []struct{ times, told, stat string }{
		{"0", "ok", "size 0 made 0 blocks 0"},
		{"1", "ok", "size 1 made 0 blocks 1"},
		{"131072", "ok", "size 131072 made 0 blocks 1057"},
		{"131073", no(api.ErrFileRange), "size 0 made 0 blocks 0"},
	} {
		tells(t, first, deed{"create /a", file(2)}, deed{"fill /a at 0 with 7 times " + c.times, c.told}, deed{"stat /a", "ok inode 2 file links 1 " + c.stat})
	}
	for _, n := range []string{"131074", "131080", "200000", "4294967296", "9223372036854775807", most} {
		isWrong(t, first+"create /a\nfill /a at 0 with 7 times "+n, 3)
		isWrong(t, first+"create /a\nfill /none at 9999999 with 7 times "+n+"\nx\n", 3)
	}
	for _, c := range [][2]string{{"0", "00"}, {"1", "01"}, {"7", "07"}, {"255", "ff"}, {"256", "00"}, {"257", "01"}, {"263", "07"}, {"65535", "ff"}, {most, "00"}, {"4611686018427387903", "ff"}} {
		tells(t, head, deed{"create /a", file(2)}, deed{"fill /a at 1 with " + c[0] + " times 3", "ok"}, deed{"read /a at 0 len 9", "ok 00" + c[1] + c[1] + c[1]})
	}
}

func TestBlanksAndRemarks(t *testing.T) { // P20.1: words, and what no line says
	tells(t, head, deed{" \tmkdir\t\t/d    made \t 5\t ", "ok inode 2 dir links 1 size 0 made 5 blocks 0"}, deed{"list / # of all", "ok 1\n  d 2 dir"},
		deed{"list /#", "ok 1\n  d 2 dir"}, deed{"list /#/d", "ok 1\n  d 2 dir"}, deed{"create /a#b c d", file(3)}, deed{"stat /a##", file(3)},
		deed{"\tsync#sync", "ok"}, deed{"create /e # made 5", file(4)}, deed{"list /", "ok 3\n  a 3 file\n  d 2 dir\n  e 4 file"})
	isWrong(t, head+"create #/a", 2)
	isWrong(t, head+"create /a made # 5", 2)
	isWrong(t, head+"sy#nc", 2)
	plays(t, head+"#sync\n # sync\n\t#\n##\nsync", "6 sync ok\n")
	// Only blank and tab stand between words: all else is part of one.
	for _, c := range []string{"\r", "\x00", "\x01", "\v", "\f", "\xa0", "\u00a0", "\u2003", "\u0085", "\x85", "\x7f", "\xff", "\ufffd", "é", "\u3000"} {
		isWrong(t, head+"sync"+c, 2)
		isWrong(t, head+c+"sync", 2)
		isWrong(t, head+"create"+c+"/a", 2)
		isWrong(t, head+c, 2)
		isWrong(t, c+"\n"+head, 1)
		isWrong(t, c+head, 1)
		isWrong(t, head+"flush 1"+c, 2)
		transcriptAsTold(t, head+"create /a"+c+"\nlist /\nstat /a"+c+"b\n")
	}
	plays(t, head+"create /a\r\nlist /\r\n", "2 create ok inode 2 file links 1 size 0 made 0 blocks 0\n3 list refused 110\n")
	// Whether a PATH is a path is not looked at: it may well be a word of another line.
	tells(t, head, deed{"stat made", no(api.ErrPathForm)}, deed{"create at made 5", no(api.ErrPathForm)}, deed{"link create link", no(api.ErrPathForm)}, deed{"list 5", no(api.ErrPathForm)},
		deed{"stat " + strings.Repeat("p", 60000), no(api.ErrPathForm)}, deed{"stat \xff", no(api.ErrPathForm)}, deed{"create disk", no(api.ErrPathForm)})
}
