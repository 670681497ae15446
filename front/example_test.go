package front_test

import (
	"strings"
	"testing"

	"breakwater/api"
)

func TestExamples(t *testing.T) { // P19.1, P19.2, P19.4: the chapter's table, line by line
	stands(t, "\x0c", syncAll())
	stands(t, "\x0e"+"\x03\x00\x00\x00", flush(3))
	stands(t, "\x0a"+"\x01\x00/", stat("/"))
	stands(t, "\x01"+"\x02\x00/a"+"\x07\x00\x00\x00\x00\x00\x00\x00", api.Op{Kind: api.OpCreate, Path: "/a", Made: 7})
	stands(t, "\x06"+"\x02\x00/a"+"\x02\x00/b", rename("/a", "/b"))
	stands(t, "\x07"+"\x02\x00/a"+"\x01\x00\x00\x00\x00\x00\x00\x00"+"\x02\x00\x00\x00\x05\x06", write("/a", 1, "\x05\x06"))
	for _, o := range []api.Op{{Kind: api.OpSync, Path: "/"}, truncate("/a", -1), {Kind: 15}} {
		hasNone(t, o)
	}
	for _, b := range []string{"\x0c\x00", "\x0a\x01\x00", "", "\x00"} {
		isNone(t, b)
	}
	r := rigOf(t, 40, 8)
	if b := r.f.Do([]byte{0x0c}); string(b) != strings.Repeat("\x00", 41) {
		t.Errorf("Do(0c): %x", b)
	}
	readsAnswer(t, strings.Repeat("\x00", 41), api.Answer{})
	readsAnswer(t, string(r.f.Do([]byte{0xff})), refused(api.ErrFrontAsk))
}

func TestExamplesOfTheWhole(t *testing.T) { // P19.4, P19.8: the document's, by bytes
	r := rigOf(t, 40, 8)
	r.is(list("/"), api.Answer{})
	r.is(api.Op{Kind: api.OpCreate, Path: "/a", Made: 7}, api.Answer{Stat: api.Stat{Ino: 2, Kind: api.KindFile, Links: 1, Made: 7}})
	for _, x := range []struct {
		pick   int
		landed bool
	}{{1, false}, {2, true}, {9, true}, {1, true}, {1, false}, {4000, false}, {1<<32 - 1, false}} {
		r.is(flush(x.pick), api.Answer{Landed: x.landed})
	}
	r.d.Restart()
	r = rigOn(t, r.d)
	r.is(list("/"), api.Answer{Entries: []api.Entry{aFile("a", 2)}})
	r.is(write("/a", 126, "\x01\x02\x03\x04"), api.Answer{})
	r.is(read("/a", 125, 9), api.Answer{Data: []byte{0, 1, 2, 3, 4}})
	r.is(stat("/a"), api.Answer{Stat: api.Stat{Ino: 2, Kind: api.KindFile, Links: 1, Size: 130, Made: 7, Blocks: 2}})
	r.is(api.Op{Kind: api.OpMkdir, Path: "/d", Made: 1 << 40}, api.Answer{Stat: api.Stat{Ino: 3, Kind: api.KindDir, Links: 1, Made: 1 << 40}})
	r.is(mkdir("/d/e"), api.Answer{Stat: api.Stat{Ino: 4, Kind: api.KindDir, Links: 1}})
	for _, x := range []struct {
		o    api.Op
		want api.Errno
	}{
		{rename("/d", "/d/e/x"), api.ErrTreeLoop}, {rmdir("/d"), api.ErrTreeFull}, {unlink("/d"), api.ErrFileKind}, {create("/d/"), api.ErrPathForm},
		{create("/d"), api.ErrDirThere}, {rmdir("/"), api.ErrTreeRoot}, {fsync("/d"), api.ErrFileKind}, {stat("/n"), api.ErrDirNone}, {list("/a"), api.ErrDirKind},
		{link("/a", "/d/l"), api.OK}, {rename("/a", "/m"), api.OK}, {unlink("/m"), api.OK}, {fsync("/d/l"), api.OK}, {truncate("/d/l", 3), api.OK}, {rmdir("/d/e"), api.OK}, {syncAll(), api.OK},
	} {
		r.is(x.o, refused(x.want))
	}
	r.is(list("/d"), api.Answer{Entries: []api.Entry{aFile("l", 2)}})
}
