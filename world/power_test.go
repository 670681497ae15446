package world_test

import (
	"fmt"
	"strings"
	"testing"

	"breakwater/api"
)

// asking are all lines that ask a file system, each refused since there is none.
func asking() []deed {
	var deeds []deed
	for _, r := range rows() {
		switch word := strings.Fields(r.line)[0]; word {
		case "arm", "cut", "spoil":
		default:
			deeds = append(deeds, deed{r.line, no(api.ErrFSDead)})
		}
	}
	return append(deeds, deed{"stat a", no(api.ErrFSDead)}, deed{"create /a made " + most, no(api.ErrFSDead)}, deed{"flush 99", no(api.ErrFSDead)},
		deed{"fill / at " + most + " with 1 times 131073", no(api.ErrFSDead)}, deed{"read / at 0 len 131073", no(api.ErrFSDead)})
}

// joined are deeds one behind the other.
func joined(all ...[]deed) []deed {
	var deeds []deed
	for _, l := range all {
		deeds = append(deeds, l...)
	}
	return deeds
}

func TestThePowerGoes(t *testing.T) { // the transcript: arm, lines behind which the power is off, cut
	begin := []deed{{"create /a", file(2)}, {"sync", "ok"}, {"mkdir /d", dir(3)}, {"create /d/f", file(4)}, {"write /a at 0 0102", "ok"}}
	// What is dirty: the root's slot of d and d's slot of f, inodes 1 to 4, and a block.
	begin = append(begin, deed{"dirty", "7 1 2 3 4 10 11 12"})
	down := []deed{{"arm 3", no(api.ErrDiskDown)}, {"arm 0", no(api.ErrDiskDown)}}
	back := []deed{{"list /", "ok 1\n  a 2 file"}, {"read /a at 0 len 9", "ok -"}, {"dirty", "0"}, {"room", "30 0 6"}, {"sync", "ok"}, {"create /b", file(3)}, {"sync", "ok"}, {"dirty", "0"}}
	tells(t, head, joined(begin, []deed{{"arm 0", "ok"}, {"stat /a", "ok inode 2 file links 1 size 2 made 0 blocks 1"}, {"dirty", "7 1 2 3 4 10 11 12"}, {"room", "27 0 4"}, {"flush 99", "ok"}, {"sync", no(api.ErrDiskDown)}},
		asking(), down, asking(), []deed{{"cut", "ok 0"}}, back)...)
	tells(t, head, joined(begin, []deed{{"arm 0", "ok"}, {"cut", "ok 0"}}, back)...)
	tells(t, head, joined(begin, []deed{{"arm 0", "ok"}, {"arm 1", "ok"}, {"flush 12", "ok landed"}, {"flush 2", no(api.ErrDiskDown)}}, asking(), []deed{{"cut", "ok 0"}}, back)...)
	tells(t, head, joined(begin, []deed{{"arm 0", "ok"}, {"arm " + most, "ok"}, {"sync", "ok"}, {"dirty", "0"}, {"cut", "ok 0"}, {"list /", "ok 2\n  a 2 file\n  d 3 dir"}, {"read /a at 0 len 9", "ok 0102"}})...)
	// With nothing dirty nothing is written, and the power stays.
	tells(t, head, deed{"arm 0", "ok"}, deed{"sync", "ok"}, deed{"list /", "ok 0"}, deed{"flush 1", "ok"}, deed{"dump", "0"}, deed{"create /a", file(2)}, deed{"fsync /a", no(api.ErrDiskDown)}, deed{"list /", no(api.ErrFSDead)}, deed{"cut", "ok 0"}, deed{"list /", "ok 0"})
	// A line other than sync writes, too: what is renamed, is cut off, or has no room.
	tells(t, head, deed{"mkdir /d", dir(2)}, deed{"arm 0", "ok"}, deed{"rename /d /e", no(api.ErrDiskDown)}, deed{"dirty", no(api.ErrFSDead)}, deed{"cut", "ok 0"})
	tells(t, head, deed{"create /a", file(2)}, deed{"write /a at 0 01", "ok"}, deed{"arm 0", "ok"}, deed{"truncate /a to 0", no(api.ErrDiskDown)}, deed{"dump", no(api.ErrFSDead)}, deed{"cut", "ok 0"}, deed{"dump", "0"})
	full := []deed{{"create /a", file(2)}, {"fill /a at 0 with 1 times 512", "ok"}, {"sync", "ok"}, {"unlink /a", "ok"}}
	tells(t, "disk 8 inodes 2\n", joined(full, []deed{{"arm 0", "ok"}, {"create /b", no(api.ErrDiskDown)}, {"room", no(api.ErrFSDead)}, {"cut", "ok 0"}, {"list /", "ok 1\n  a 2 file"}})...)
	tells(t, "disk 8 inodes 2\n", joined(full, []deed{{"arm 1", "ok"}, {"create /b", file(2)}, {"room", "4 4 0"}, {"write /b at 0 01", no(api.ErrDiskDown)}, {"dirty", no(api.ErrFSDead)}, {"cut", "ok 1"}, {"list /", "ok 0"}})...)
}

func TestThePowerGoesAtEachWrite(t *testing.T) { // P20.1: behind any number of writes a transcript is what is told in another way
	ops := "mkdir /d\ncreate /d/f\nfill /d/f at 1500 with 1 times 300\nsync\nlink /d/f /l\nrename /d /e\ncreate /x\nwrite /x at 5 0506\nfsync /x\ntruncate /l to 9\nunlink /e/f\nrename /x /l\nsync\nrmdir /e\nsync\n"
	for n := range 60 {
		for _, behind := range []string{"", "arm 1\nlist /\ncut\n"} {
			transcriptAsTold(t, fmt.Sprintf("%sarm %d\n%scut\n%sdump\nroom\nlist /\n", head, n, ops, behind))
		}
	}
}

func TestACutThatIsRefused(t *testing.T) { // the transcript: a cut whose Mount is refused, and what is answered behind it
	for _, c := range []struct {
		spoils, heals []deed
		e             api.Errno
	}{
		{[]deed{{"spoil 0 at 0 byte 0", "ok"}}, []deed{{"spoil 0 at 0 byte 66", "ok"}}, api.ErrLookSuper},
		{[]deed{{"spoil 0 at 127 byte 1", "ok"}}, []deed{{"spoil 0 at 127 byte 256", "ok"}}, api.ErrLookSuper},
		{[]deed{{"spoil 0 at 4 byte 41", "ok"}}, []deed{{"spoil 0 at 4 byte 40", "ok"}}, api.ErrLookSuper},
		{[]deed{{"spoil 1 at 0 byte 1", "ok"}}, []deed{{"spoil 1 at 0 byte 2", "ok"}}, api.ErrLookRoot},
		{[]deed{{"spoil 1 at 3 byte 1", "ok"}, {"spoil 0 at 3 byte 1", "ok"}}, []deed{{"spoil 0 at 3 byte 87", "ok"}, {"spoil 1 at 3 byte 0", "ok"}}, api.ErrLookSuper},
	} {
		tells(t, head, joined([]deed{{"create /a", file(2)}, {"sync", "ok"}, {"create /b", file(3)}}, c.spoils, asking(), []deed{{"cut", no(c.e)}}, asking(), []deed{{"arm 9", "ok"}, {"cut", no(c.e)}, {"arm 0", "ok"}},
			asking(), []deed{{"spoil 40 at 0 byte 0", no(api.ErrDiskPlace)}}, c.heals, asking(), []deed{{"cut", "ok 0"}, {"list /", "ok 1\n  a 2 file"}, {"dirty", "0"}, {"sync", "ok"}, {"create /b", file(3)}, {"sync", "ok"}})...)
	}
}

func TestSpoil(t *testing.T) { // the transcript: spoil of what there is and of what there is not
	begin := []deed{{"create /a", file(2)}, {"write /a at 0 010203", "ok"}, {"sync", "ok"}, {"write /a at 1 ff", "ok"}}
	// Whatever becomes of it, there is no file system behind it, and what was dirty is lost.
	for _, n := range []string{"40", "41", "4096", most} {
		for _, armed := range [][]deed{{}, {{"arm 0", "ok"}}, {{"arm 0", "ok"}, {"sync", no(api.ErrDiskDown)}}} {
			tells(t, head, joined(begin, armed, []deed{{"spoil " + n + " at 0 byte 0", no(api.ErrDiskPlace)}}, asking(), []deed{{"arm 0", "ok"}, {"spoil " + n + " at 5 byte 5", no(api.ErrDiskPlace)}, {"cut", "ok 0"}, {"read /a at 0 len 9", "ok 010203"}, {"sync", "ok"}})...)
		}
	}
	// The block of a has sector 10; a place is taken mod 128, a byte's lowest 8 bits.
	for _, c := range []struct{ place, value, data string }{
		{"0", "7", "070203"}, {"1", "255", "01ff03"}, {"2", "256", "010200"}, {"128", "9", "090203"}, {"130", "9", "010209"}, {"1281", "263", "010703"}, {most, "8", "080203"}, {"4611686018427387777", most, "010003"}, {"2", "4611686018427387903", "0102ff"},
	} {
		for _, armed := range [][]deed{{}, {{"arm 0", "ok"}}, {{"arm 0", "ok"}, {"sync", no(api.ErrDiskDown)}}} {
			tells(t, head, joined(begin, armed, []deed{{"spoil 10 at " + c.place + " byte " + c.value, "ok"}}, asking(), []deed{{"cut", "ok 0"}, {"read /a at 0 len 9", "ok " + c.data}, {"write /a at 3 04", "ok"}, {"sync", "ok"}, {"read /a at 0 len 9", "ok " + c.data + "04"}})...)
		}
	}
	// What is not well-formed any more is put right by the cut.
	tells(t, head, joined(begin, []deed{{"spoil 10 at 3 byte 1", "ok"}, {"cut", "ok 1"}, {"read /a at 0 len 9", "ok 010203"}, {"cut", "ok 0"}})...)
	tells(t, head, joined(begin, []deed{{"spoil 2 at 1 byte 9", "ok"}, {"cut", "ok 1"}, {"stat /a", "ok inode 2 file links 1 size 3 made 0 blocks 1"}})...)
	tells(t, head, joined(begin, []deed{{"spoil 9 at 5 byte 47", "ok"}, {"cut", "ok 2"}, {"list /", "ok 0"}, {"room", "30 0 7"}, {"create /n", file(2)}})...)
	tells(t, head, joined(begin, []deed{{"spoil 9 at 4 byte 2", "ok"}, {"spoil 9 at 6 byte 98", "ok"}, {"cut", "ok 0"}, {"list /", "ok 1\n  ab 2 file"}})...)
	tells(t, head, joined(begin, []deed{{"spoil 39 at 0 byte 1", "ok"}, {"spoil 0 at 300 byte 0", "ok"}, {"cut", "ok 0"}, {"list /", "ok 1\n  a 2 file"}})...)
}
