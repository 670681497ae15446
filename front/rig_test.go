package front_test

import (
	"bytes"
	"encoding/binary"
	"fmt"
	"slices"
	"strings"
	"testing"

	"breakwater/api"
	"breakwater/disk"
	"breakwater/front"
	"breakwater/fs"
)

const (
	minInt = -1 << 63
	maxInt = 1<<63 - 1
)

// The operations.

func create(path string) api.Op          { return api.Op{Kind: api.OpCreate, Path: path} }
func mkdir(path string) api.Op           { return api.Op{Kind: api.OpMkdir, Path: path} }
func link(path, to string) api.Op        { return api.Op{Kind: api.OpLink, Path: path, To: to} }
func unlink(path string) api.Op          { return api.Op{Kind: api.OpUnlink, Path: path} }
func rmdir(path string) api.Op           { return api.Op{Kind: api.OpRmdir, Path: path} }
func rename(path, to string) api.Op      { return api.Op{Kind: api.OpRename, Path: path, To: to} }
func truncate(path string, n int) api.Op { return api.Op{Kind: api.OpTruncate, Path: path, Off: n} }
func stat(path string) api.Op            { return api.Op{Kind: api.OpStat, Path: path} }
func list(path string) api.Op            { return api.Op{Kind: api.OpList, Path: path} }
func syncAll() api.Op                    { return api.Op{Kind: api.OpSync} }
func fsync(path string) api.Op           { return api.Op{Kind: api.OpFsync, Path: path} }
func flush(n int) api.Op                 { return api.Op{Kind: api.OpFlush, Pick: n} }

func read(path string, off, n int) api.Op {
	return api.Op{Kind: api.OpRead, Path: path, Off: off, Len: n}
}

func write(path string, off int, data string) api.Op {
	return api.Op{Kind: api.OpWrite, Path: path, Off: off, Data: []byte(data)}
}

func aFile(name string, i int) api.Entry { return api.Entry{Name: name, Ino: i, Kind: api.KindFile} }
func aDir(name string, i int) api.Entry  { return api.Entry{Name: name, Ino: i, Kind: api.KindDir} }

// refused is the answer that tells an error, and nothing else.
func refused(e api.Errno) api.Answer { return api.Answer{Code: e} }

// some are so many bytes, no two neighbours of which are alike.
func some(n int) string {
	b := make([]byte, n)
	for k := range b {
		b[k] = byte(1 + k%251)
	}
	return string(b)
}

// long is a text of so many bytes.
func long(n int) string { return strings.Repeat("p", n) }

// The forms, told in another way.

// uses are the fields of a kind, in their order: Path, To, Off, Len, Data, Made, picK.
func uses(kind int) string {
	return [...]string{1: "PM", 2: "PM", 3: "PT", 4: "P", 5: "P", 6: "PT", 7: "POD", 8: "PO", 9: "POL", 10: "P", 11: "P", 12: "", 13: "P", 14: "K"}[kind]
}

// encoded is an operation's bytes, whatever its values are; those of fields that it does not use are left out.
func encoded(o api.Op) string {
	b := []byte{byte(o.Kind)}
	for _, field := range uses(o.Kind) {
		switch field {
		case 'P':
			b = append(binary.LittleEndian.AppendUint16(b, uint16(len(o.Path))), o.Path...)
		case 'T':
			b = append(binary.LittleEndian.AppendUint16(b, uint16(len(o.To))), o.To...)
		case 'O':
			b = binary.LittleEndian.AppendUint64(b, uint64(o.Off))
		case 'L':
			b = binary.LittleEndian.AppendUint64(b, uint64(o.Len))
		case 'D':
			b = append(binary.LittleEndian.AppendUint32(b, uint32(len(o.Data))), o.Data...)
		case 'M':
			b = binary.LittleEndian.AppendUint64(b, uint64(o.Made))
		case 'K':
			b = binary.LittleEndian.AppendUint32(b, uint32(o.Pick))
		}
	}
	return string(b)
}

// encodedAnswer is an answer's bytes, whatever its values are.
func encodedAnswer(a api.Answer) string {
	b := &bytes.Buffer{}
	put := func(v any) { binary.Write(b, binary.LittleEndian, v) }
	s := a.Stat
	for _, v := range []int{int(a.Code), s.Ino, s.Kind, s.Links, s.Size} {
		put(uint32(v))
	}
	put(uint64(s.Made))
	put(uint32(s.Blocks))
	put(uint32(len(a.Data)))
	b.Write(a.Data)
	put(uint32(len(a.Entries)))
	for _, e := range a.Entries {
		put(uint16(len(e.Name)))
		b.WriteString(e.Name)
		put(uint32(e.Ino))
		put(uint8(e.Kind))
	}
	put(a.Landed)
	return b.String()
}

// taker takes numbers and pieces from bytes, as the standard library does it.
type taker struct {
	*bytes.Reader
	bad bool
}

func take[T uint8 | uint16 | uint32 | uint64](t *taker, most uint64) int {
	var v T
	if t.bad || binary.Read(t, binary.LittleEndian, &v) != nil || uint64(v) > most {
		t.bad = true
		return 0
	}
	return int(v)
}

func (t *taker) piece(n int) []byte {
	if t.bad || n > t.Len() {
		t.bad = true
		return nil
	}
	b := make([]byte, n)
	t.Read(b)
	return b
}

// decoded is the operation that bytes say; whether there is one.
func decoded(b string) (api.Op, bool) {
	t := &taker{Reader: bytes.NewReader([]byte(b))}
	var o api.Op
	o.Kind = take[uint8](t, 14)
	if t.bad || o.Kind == 0 {
		return api.Op{}, false
	}
	for _, field := range uses(o.Kind) {
		switch field {
		case 'P':
			o.Path = string(t.piece(take[uint16](t, 400)))
		case 'T':
			o.To = string(t.piece(take[uint16](t, 400)))
		case 'O':
			o.Off = take[uint64](t, 1<<62)
		case 'L':
			o.Len = take[uint64](t, 1<<62)
		case 'D':
			o.Data = t.piece(take[uint32](t, 1<<17))
		case 'M':
			o.Made = take[uint64](t, 1<<40)
		case 'K':
			o.Pick = take[uint32](t, 1<<32-1)
		}
	}
	if t.bad || t.Len() > 0 {
		return api.Op{}, false
	}
	return o, true
}

// decodedAnswer is the answer that bytes say; whether there is one.
func decodedAnswer(b string) (api.Answer, bool) {
	const most = 1<<32 - 1
	t := &taker{Reader: bytes.NewReader([]byte(b))}
	var a api.Answer
	a.Code = api.Errno(take[uint32](t, most))
	for _, at := range []*int{&a.Stat.Ino, &a.Stat.Kind, &a.Stat.Links, &a.Stat.Size} {
		*at = take[uint32](t, most)
	}
	a.Stat.Made = take[uint64](t, 1<<40)
	a.Stat.Blocks = take[uint32](t, most)
	a.Data = t.piece(take[uint32](t, 1<<17))
	for range take[uint32](t, 1068) {
		name := string(t.piece(take[uint16](t, 40)))
		i := take[uint32](t, most)
		a.Entries = append(a.Entries, api.Entry{Name: name, Ino: i, Kind: take[uint8](t, 255)})
	}
	a.Landed = take[uint8](t, 1) == 1
	if t.bad || t.Len() > 0 {
		return api.Answer{}, false
	}
	return a, true
}

// equal tells whether two answers say the same.
func equal(a, b api.Answer) bool {
	return a.Code == b.Code && a.Stat == b.Stat && bytes.Equal(a.Data, b.Data) && slices.Equal(a.Entries, b.Entries) && a.Landed == b.Landed
}

// equalOps tells whether two operations say the same.
func equalOps(a, b api.Op) bool {
	numbers := func(o api.Op) [5]int { return [5]int{o.Kind, o.Off, o.Len, o.Made, o.Pick} }
	return numbers(a) == numbers(b) && a.Path == b.Path && a.To == b.To && bytes.Equal(a.Data, b.Data)
}

// say tells an operation shortly.
func say(o api.Op) string {
	data := fmt.Sprintf(" data %d", len(o.Data))
	o.Data = nil
	return fmt.Sprintf("%.200s%s", fmt.Sprintf("%+v", o), data)
}

// sayAnswer tells an answer shortly.
func sayAnswer(a api.Answer) string { return fmt.Sprintf("%.300s", fmt.Sprintf("%+v", a)) }

// What the calls are held to.

// stands holds Bytes to some, and Read of them to the operation.
func stands(t *testing.T, want string, o api.Op) {
	t.Helper()
	if b, e := front.Bytes(o); e != api.OK || string(b) != want {
		t.Errorf("Bytes of %s: %.100x, %d, want %.100x", say(o), b, e, want)
	}
	reads(t, want, o)
}

// hasNone holds Bytes to refusing an operation.
func hasNone(t *testing.T, o api.Op) {
	t.Helper()
	if b, e := front.Bytes(o); e != api.ErrFrontAsk || len(b) > 0 {
		t.Errorf("Bytes of %s: %d bytes, %d", say(o), len(b), e)
	}
}

// reads holds Read to an operation.
func reads(t *testing.T, b string, want api.Op) {
	t.Helper()
	if o, e := front.Read([]byte(b)); e != api.OK || !equalOps(o, want) {
		t.Errorf("Read of %.100x: %s, %d, want %s", b, say(o), e, say(want))
	}
}

// isNone holds Read to refusing bytes.
func isNone(t *testing.T, b string) {
	t.Helper()
	if o, e := front.Read([]byte(b)); e != api.ErrFrontAsk || !equalOps(o, api.Op{}) {
		t.Errorf("Read of %.100x (%d): %s, %d", b, len(b), say(o), e)
	}
}

// asTold holds Read to what is told of bytes in another way; whether they say something.
func asTold(t *testing.T, b string) bool {
	t.Helper()
	o, there := decoded(b)
	if there {
		reads(t, b, o)
		stands(t, b, o)
	} else {
		isNone(t, b)
	}
	return there
}

// readsAnswer holds ReadAnswer to an answer.
func readsAnswer(t *testing.T, b string, want api.Answer) {
	t.Helper()
	if a, e := front.ReadAnswer([]byte(b)); e != api.OK || !equal(a, want) {
		t.Errorf("ReadAnswer of %.100x: %s, %d, want %s", b, sayAnswer(a), e, sayAnswer(want))
	}
}

// isNoAnswer holds ReadAnswer to refusing bytes.
func isNoAnswer(t *testing.T, b string) {
	t.Helper()
	if a, e := front.ReadAnswer([]byte(b)); e != api.ErrFrontAsk || !equal(a, api.Answer{}) {
		t.Errorf("ReadAnswer of %.100x (%d): %s, %d", b, len(b), sayAnswer(a), e)
	}
}

// answerAsTold holds ReadAnswer to what is told of bytes in another way; whether they say something.
func answerAsTold(t *testing.T, b string) bool {
	t.Helper()
	a, there := decodedAnswer(b)
	if there {
		readsAnswer(t, b, a)
	} else {
		isNoAnswer(t, b)
	}
	return there
}

// Fronts, and what they lie on.

// asker is whatever does operations.
type asker interface{ Do(api.Op) api.Answer }

// rig is a front, and the disk that it lies on; it is asked by operations, too, each of which goes by bytes.
type rig struct {
	*testing.T
	d *disk.Disk
	f *front.Front
}

// madeDisk is a disk on which an empty file system was made.
func madeDisk(t *testing.T, sectors, inodes int) *disk.Disk {
	t.Helper()
	d, e := disk.New(sectors)
	if e != api.OK {
		t.Fatalf("disk.New(%d): %d", sectors, e)
	}
	if e := fs.Mkfs(d, inodes); e != api.OK {
		t.Fatalf("Mkfs(%d): %d", inodes, e)
	}
	return d
}

// mounted is the file system that a disk has.
func mounted(t *testing.T, d *disk.Disk) *fs.FS {
	t.Helper()
	f, _, e := fs.Mount(d)
	if f == nil || e != api.OK {
		t.Fatalf("Mount: %d", e)
	}
	return f
}

// rigOn is a front over what a disk has.
func rigOn(t *testing.T, d *disk.Disk) *rig {
	t.Helper()
	f, e := front.New(d)
	if f == nil || e != api.OK {
		t.Fatalf("New: %d", e)
	}
	return &rig{t, d, f}
}

// rigOf is one over an empty file system.
func rigOf(t *testing.T, sectors, inodes int) *rig {
	t.Helper()
	return rigOn(t, madeDisk(t, sectors, inodes))
}

// Do asks by bytes.
func (r *rig) Do(o api.Op) api.Answer {
	r.Helper()
	b, e := front.Bytes(o)
	if e != api.OK {
		r.Fatalf("Bytes of %s: %d", say(o), e)
	}
	a, e := front.ReadAnswer(r.f.Do(b))
	if e != api.OK {
		r.Fatalf("%s: ReadAnswer: %d", say(o), e)
	}
	return a
}

// done does operations, none of which may be refused.
func done(t *testing.T, by asker, ops ...api.Op) {
	t.Helper()
	for _, o := range ops {
		if a := by.Do(o); a.Code != api.OK {
			t.Fatalf("%s: %d", say(o), a.Code)
		}
	}
}

// is holds a request to an answer: byte by byte, and as it is read.
func (r *rig) is(o api.Op, want api.Answer) {
	r.Helper()
	b := r.f.Do([]byte(encoded(o)))
	if string(b) != encodedAnswer(want) {
		r.Errorf("%s: %.100x, want %.100x", say(o), b, encodedAnswer(want))
	}
	readsAnswer(r.T, string(b), want)
}

// wrong holds bytes to being answered as no request: nothing is changed on the disk.
func (r *rig) wrong(b string) {
	r.Helper()
	before := r.outside()
	if got := r.f.Do([]byte(b)); string(got) != "\xbe"+strings.Repeat("\x00", 40) {
		r.Errorf("Do of %.100x: %.100x", b, got)
	}
	if r.outside() != before {
		r.Errorf("Do of %.100x has changed the disk", b)
	}
}

// outside is what is seen of the disk.
func (r *rig) outside() string {
	return fmt.Sprintf("%v %d %x", r.d.Down(), r.d.Writes(), r.d.Image())
}

// arm lets the power go behind so many writes.
func (r *rig) arm(writes int) {
	r.Helper()
	if e := r.d.Arm(writes); e != api.OK {
		r.Fatalf("Arm(%d): %d", writes, e)
	}
}

// told is all that questions tell, by paths.
func told(a asker) string {
	b := &strings.Builder{}
	queue := []string{"/"}
	for at := 0; at < len(queue); at++ {
		p := queue[at]
		s := a.Do(stat(p))
		fmt.Fprintf(b, "%s %d %+v\n", p, s.Code, s.Stat)
		if s.Stat.Kind == api.KindFile {
			x := a.Do(read(p, 0, api.MaxData))
			fmt.Fprintf(b, "%d %x\n", x.Code, x.Data)
			continue
		}
		l := a.Do(list(p))
		fmt.Fprintf(b, "%d %+v\n", l.Code, l.Entries)
		for _, n := range l.Entries {
			queue = append(queue, strings.TrimSuffix(p, "/")+"/"+n.Name)
		}
	}
	return b.String()
}

// steps answers numbers below a limit, the same ones in every run.
func steps(seed uint32) func(limit int) int {
	return func(limit int) int {
		seed = seed*1664525 + 1013904223
		return int(seed>>8) % limit
	}
}
