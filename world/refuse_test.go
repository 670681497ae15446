package world_test

import (
	"fmt"
	"strings"
	"testing"
)

func TestLong(t *testing.T) { // P20.1: ErrWorldLong
	const bytes, lines = 65536, 2000
	for _, fill := range []string{" ", "\t", "\n", "#", "#x", "# \n", "\n# sync\n"} {
		s := head + strings.Repeat(fill, bytes)
		plays(t, s[:bytes], "")
		isLong(t, s[:bytes+1])
		plays(t, s[:bytes-5]+"\nroom", rooms(s[:bytes-5]+"\nroom"))
		isLong(t, s[:bytes-4]+"\nroom")
	}
	// What says nothing is counted with the bytes, not with the lines.
	many := strings.Repeat("room\n", lines-1)
	spread := strings.ReplaceAll(many, "\n", "\n\n # room\n\t\n")
	for _, s := range []string{many, strings.TrimSuffix(many, "\n"), spread, "\n\n#\n" + many, many + "#room\n\n \n#\n"} {
		for _, first := range []string{head, "\n" + head, "# a script\n" + head} {
			plays(t, first+s, rooms(first+s))
			isLong(t, first+s+"\nroom")
			isLong(t, first+s+"\n\n#\nroom\n")
			isLong(t, first+s+"\n#\nno line\n#")
		}
	}
	isLong(t, strings.Repeat("x\n", lines+1))
	isWrong(t, strings.Repeat("x\n", lines), 1)
	isWrong(t, head+strings.Repeat("room\n", lines-2)+"rooms\n", lines)
	// Too long is told ahead of a wrong line.
	wrong := "sync sync\n" + strings.Repeat("#", bytes-10)
	isWrong(t, wrong, 1)
	isLong(t, wrong+"#")
	isLong(t, strings.Repeat("\n", bytes+1))
	isWrong(t, strings.Repeat("\n", bytes), bytes+1)
	isLong(t, head+"x\n"+strings.Repeat("room\n", lines-1))
	isLong(t, head+"x\n"+strings.Repeat("room\n", lines-1)+strings.Repeat(" ", bytes))
	isLong(t, strings.Repeat("disk 7 inodes 2\n", lines+1))
}

// rooms is the transcript of a script of which each line behind the disk's is room or says nothing.
func rooms(script string) string {
	var b strings.Builder
	lines, at := said(script)
	for k := range lines[1:] {
		fmt.Fprintf(&b, "%d room 31 0 7\n", at[k+1])
	}
	return b.String()
}

func TestNothing(t *testing.T) { // P20.1: a script that says nothing
	for _, c := range []struct {
		script string
		line   int
	}{
		{"", 1}, {"\n", 2}, {"\n\n\n", 4}, {" ", 1}, {"\t \t", 1}, {" \n\t", 2}, {" \n\t\n", 3},
		{"#", 1}, {"# a remark", 1}, {"# a remark\n", 2}, {"#\n#", 2}, {"#\n#\n", 3}, {" # disk 40 inodes 8", 1}, {" # disk 40 inodes 8\n", 2},
		{"#disk 40 inodes 8\n\n\t#sync\n \n", 5}, {"##", 1}, {"#\x00\xff\n", 2},
	} {
		isWrong(t, c.script, c.line)
	}
}

func TestTheDisksLine(t *testing.T) { // P20.1: the first line that says something
	for _, first := range []string{
		"disk 40 inodes 8", " disk\t40  inodes \t8 ", "disk 40 inodes 8#", "disk 40 inodes 8 # of 40", "\tdisk 40 inodes 8\t#",
	} {
		plays(t, first, "")
		plays(t, first+"\n", "")
		plays(t, first+"\nroom", "2 room 31 0 7\n")
		plays(t, "\n#\n"+first+"\n\nroom\n", "5 room 31 0 7\n")
		isWrong(t, first+"\n"+first, 2)
		isWrong(t, first+"\nroom\n\n"+first+"\nroom\n", 4)
		isWrong(t, "room\n"+first, 1)
		isWrong(t, "\n \n#\n room\n"+first+"\n", 4)
		isWrong(t, first+"\nx\n"+first, 2)
		isWrong(t, first+"\n"+first+"\nx\n", 2)
		isWrong(t, first+"\ndisk 7 inodes 8", 2)
		isWrong(t, first+"\ndisk", 2)
	}
	for _, first := range []string{
		"disk", "disk 40", "disk 40 inodes", "40 inodes 8", "disk inodes 8", "disk 40 8", "inodes 8 disk 40", "disk 40 inodes 8 8", "disk 40 inodes 8 made 5",
		"Disk 40 inodes 8", "disc 40 inodes 8", "disk 40 inode 8", "disk 40 INODES 8", "disk 40 inodes # 8", "disk 40 inodes 8\r",
		"disk\n40 inodes 8", "disk /a inodes 8", "disk 40 inodes x", "disk40 inodes 8", "room", "x", "\x00", "\xff", "create /a", "cut", "spoil 0 at 0 byte 0",
	} {
		isWrong(t, first, 1)
		isWrong(t, first+"\n"+head, 1)
		isWrong(t, "\n"+first+"\nx", 2)
		isWrong(t, "\n\t#\n"+first, 3)
	}
	isWrong(t, "#disk 40 inodes 8\nx\n"+head, 2)
}

func TestSizes(t *testing.T) { // P20.1: what disk.New, fs.Mkfs and fs.Mount refuse is the disk's line
	for _, c := range []struct {
		sectors, inodes string
		room            string
	}{
		{"8", "1", "6 0 0"}, {"8", "6", "1 0 5"}, {"40", "8", "31 0 7"}, {"40", "38", "1 0 37"}, {"4096", "512", "3583 0 511"}, {"4096", "1", "4094 0 0"}, {"514", "512", "1 0 511"},
	} {
		plays(t, "disk "+c.sectors+" inodes "+c.inodes+"\nroom\n", "2 room "+c.room+"\n")
	}
	for _, c := range [][2]string{
		{"0", "0"}, {"0", "8"}, {"1", "1"}, {"7", "1"}, {"7", "8"}, {"8", "0"}, {"8", "7"}, {"40", "0"}, {"40", "39"}, {"40", "40"}, {"513", "512"}, {"4096", "513"},
		{"4097", "8"}, {"4097", "512"}, {most, "8"}, {"40", most}, {most, most}, {"4294967336", "8"}, {"40", "4294967304"},
	} {
		first := "disk " + c[0] + " inodes " + c[1]
		isWrong(t, first, 1)
		isWrong(t, first+"\nroom\n", 1)
		isWrong(t, "\n#\n"+first+"\nroom\n", 3)
		// Another wrong line is told, though it stands further down.
		isWrong(t, first+"\nsync sync\n", 2)
		isWrong(t, first+"\nroom\n\nfill /a at 0 with 1 times 131074", 4)
		isWrong(t, first+"\nroom\n"+head, 3)
		isWrong(t, first+"\n"+first+"\n", 2)
	}
}
