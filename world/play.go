package world

import (
	"strconv"
	"strings"

	"breakwater/api"
	"breakwater/disk"
	"breakwater/dump"
	"breakwater/fs"
)

// world is a disk, and the file system on it.
type world struct {
	disk  *disk.Disk
	files *fs.FS // nil: there is none
}

// begin makes the world of which the disk's line tells.
func begin(l line) (*world, api.Errno) {
	d, e := disk.New(l.numbers[0])
	if e != api.OK {
		return nil, e
	}
	if e := fs.Mkfs(d, l.numbers[1]); e != api.OK {
		return nil, e
	}
	f, _, e := fs.Mount(d)
	if e != api.OK {
		return nil, e
	}
	return &world{disk: d, files: f}, api.OK
}

// play does what the lines say, and tells what came of it.
func (w *world) play(lines []line) string {
	var out strings.Builder
	all := deeds()
	for _, l := range lines {
		word := l.words[0]
		out.WriteString(strconv.Itoa(l.at) + " " + word + " ")
		told, e := all[word].do(w, l.said)
		if e != api.OK {
			goto refused
		}
		out.WriteString(told)
		out.WriteString("\n")
		continue
	refused:
		out.WriteString("refused " + strconv.Itoa(int(e)) + "\n")
	}
	return out.String()
}

// isDead tells whether there is no file system to be asked. One whose disk is down is not: what it would answer of its room is not said.
func (w *world) isDead() bool { return w.files == nil || w.disk.Down() }

func (w *world) room(said) (string, api.Errno) { return tellRoom(w.files.Room()), api.OK }

func (w *world) dirty(said) (string, api.Errno) { return tellSectors(w.files.Dirty()), api.OK }

func (w *world) dump(said) (string, api.Errno) {
	nodes, e := dump.Dump(w.files)
	return tellNodes(nodes), e
}

func (w *world) arm(s said) (string, api.Errno) { return done, w.disk.Arm(s.numbers[0]) }

// cut lets the power go and come back. A file system that cannot be mounted is none.
func (w *world) cut(said) (string, api.Errno) {
	w.disk.Restart()
	f, r, e := fs.Mount(w.disk)
	w.files = f
	return tellMount(r), e
}

// spoil changes a byte behind the back of the file system, which is given up, whatever comes of it.
func (w *world) spoil(s said) (string, api.Errno) {
	w.files = nil
	w.disk.Restart()
	n, place, value := s.numbers[0], s.numbers[1], s.numbers[2]
	x, e := w.disk.Read(n)
	if e != api.OK {
		return "", e
	}
	x[place%api.SectorSize] = byte(value)
	return done, w.disk.Write(n, x)
}
