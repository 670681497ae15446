package front_test

import (
	"fmt"
	"slices"
	"strings"
	"testing"

	"breakwater/api"
	"breakwater/front"
)

// begin is a used one: a file, a directory, much of which has not landed.
func begin(t *testing.T) *rig {
	t.Helper()
	r := rigOf(t, 60, 8)
	done(t, r, create("/a"), write("/a", 0, "xyz"), mkdir("/d"), syncAll(), write("/a", 1, "new"), create("/d/f"), link("/a", "/d/l"))
	return r
}

// wrongs are bytes that are no request.
func wrongs() []string {
	all := []string{"", "\x00", "\x0f", "\xff", "\x0c\x00", "\x0c\x0c", "\x0a\x01\x00", "\x0e\x01\x00\x00", encoded(stat("/")) + "/", "\x0a" + short(401) + "/" + long(400), encoded(truncate("/a", -1)), encoded(truncate("/a", 1<<62+1)),
		encoded(write("/a", 0, some(1<<17+1))), encoded(api.Op{Kind: api.OpCreate, Path: "/n", Made: 1<<40 + 1}), strings.Repeat("\x00", 41), strings.Repeat("\xff", 1<<18)}
	for _, o := range []api.Op{create("/n"), mkdir("/n"), unlink("/a"), write("/a", 0, "wrong"), truncate("/a", 0), rename("/a", "/n"), link("/a", "/n"), syncAll(), fsync("/a"), flush(2)} {
		b := encoded(o)
		all = append(all, b[:len(b)-1], b+"\x00", "\x00"+b)
	}
	return all
}

func TestWrongRequests(t *testing.T) { // P19.4: the answer's Code is ErrFrontAsk, all else is zero; nothing is done
	r, other := begin(t), begin(t)
	for _, b := range wrongs() {
		isNone(t, b)
		r.wrong(b)
	}
	if got := r.f.Do(nil); string(got) != encodedAnswer(refused(api.ErrFrontAsk)) {
		t.Errorf("Do of nil: %x", got)
	}
	for _, o := range []api.Op{list("/"), flush(2), syncAll()} { // nor anything that is seen later
		r.is(o, other.Do(o))
	}
	if told(r) != told(other) || r.outside() != other.outside() {
		t.Error("something has changed")
	}
}

func TestRefusals(t *testing.T) { // P19.4: the errors of the layers below, with their own numbers; all else is zero
	r := begin(t)
	for _, x := range []struct {
		o    api.Op
		want api.Errno
	}{
		{stat(""), api.ErrPathForm}, {stat("a"), api.ErrPathForm}, {stat("/a/"), api.ErrPathForm}, {stat("/.."), api.ErrPathName}, {stat("/\x00"), api.ErrPathName}, {stat("/" + long(41)), api.ErrPathName}, {stat(long(400)), api.ErrPathForm},
		{link("/a", ""), api.ErrPathForm}, {rename("/n", "/."), api.ErrPathName}, {create("/a/x"), api.ErrDirKind}, {create("/n/x"), api.ErrDirNone}, {create("/"), api.ErrTreeRoot}, {mkdir("/d"), api.ErrDirThere},
		{write("/d", 0, "x"), api.ErrFileKind}, {write("/a", 1<<62, "x"), api.ErrFileRange}, {write("/a", 1<<62, some(1<<17)), api.ErrFileRange}, {write("/a", api.MaxFile, "x"), api.ErrFileRange}, {write("/a", 0, some(1<<17)), api.ErrSpaceBlocks},
		{truncate("/a", 1<<62), api.ErrFileRange}, {truncate("/d", 0), api.ErrFileKind}, {read("/a", 0, 1<<17+1), api.ErrFileRange}, {read("/a", 0, 1<<62), api.ErrFileRange}, {read("/d", 0, 1), api.ErrFileKind}, {list("/a"), api.ErrDirKind},
		{rmdir("/d"), api.ErrTreeFull}, {rmdir("/a"), api.ErrDirKind}, {unlink("/d"), api.ErrFileKind}, {unlink("/n"), api.ErrDirNone}, {rename("/d", "/d/x"), api.ErrTreeLoop}, {fsync("/d"), api.ErrFileKind}, {fsync("/n"), api.ErrDirNone},
	} {
		r.is(x.o, refused(x.want))
	}
	for k := range 4 {
		done(t, r, create(fmt.Sprintf("/n%d", k)))
	}
	r.is(create("/more"), refused(api.ErrSpaceInodes))
}

func TestRequestsThatTheFileSystemTakes(t *testing.T) { // P19.4: at the far ends of what a request may say; no request is one that the file system calls none
	r := begin(t)
	r.is(read("/a", 1<<62, 1<<17), api.Answer{})
	r.is(read("/a", 0, 1<<17), api.Answer{Data: []byte("xnew")})
	r.is(read("/a", 1<<62, 0), api.Answer{})
	r.is(write("/a", 1, ""), api.Answer{})
	r.is(flush(1<<32-1), api.Answer{})
	r.is(api.Op{Kind: api.OpCreate, Path: "/m", Made: 1 << 40}, api.Answer{Stat: api.Stat{Ino: 5, Kind: api.KindFile, Links: 1, Made: 1 << 40}})
	for _, o := range append(sampled(), sampled()...) {
		if a := r.Do(o); a.Code == api.ErrFSOp || a.Code == api.ErrFrontAsk {
			t.Errorf("%s: %d", say(o), a.Code)
		}
	}
}

func TestGreatAnswers(t *testing.T) { // P19.8: every answer has bytes: 2^17 bytes of Data; a file of the greatest size, with 100 links
	r := rigOf(t, 4096, 8)
	whole := some(api.MaxFile)
	r.is(api.Op{Kind: api.OpCreate, Path: "/a", Made: 1 << 40}, api.Answer{Stat: api.Stat{Ino: 2, Kind: api.KindFile, Links: 1, Made: 1 << 40}})
	r.is(write("/a", 0, whole[:1<<17]), api.Answer{})
	r.is(write("/a", 1<<17, whole[1<<17:]), api.Answer{})
	for k := range 99 {
		r.is(link("/a", fmt.Sprintf("/l%d", k)), api.Answer{})
	}
	r.is(link("/a", "/more"), refused(api.ErrTreeLinks))
	r.is(stat("/l5"), api.Answer{Stat: api.Stat{Ino: 2, Kind: api.KindFile, Links: 100, Size: 136704, Made: 1 << 40, Blocks: 1068 + 34}})
	for _, off := range []int{0, 1, 5632} {
		r.is(read("/a", off, 1<<17), api.Answer{Data: []byte(whole[off : off+1<<17])})
	}
	r.is(read("/a", 5633, 1<<17), api.Answer{Data: []byte(whole[5633:])})
}

func TestAFullDirectory(t *testing.T) { // P19.8: 1068 entries, with the longest names
	r := rigOf(t, 4096, 16)
	var want []api.Entry
	for k := range api.MaxBlocks {
		i := k/100 + 2
		name := fmt.Sprintf("%040d", k*7919%api.MaxBlocks)
		if k%100 == 0 {
			done(t, r, create("/"+name))
		} else {
			done(t, r, link("/"+want[i*100-200].Name, "/"+name))
		}
		want = append(want, aFile(name, i))
	}
	r.is(create("/more"), refused(api.ErrDirFull))
	slices.SortFunc(want, func(a, b api.Entry) int { return strings.Compare(a.Name, b.Name) })
	r.is(list("/"), api.Answer{Entries: want})
	if b := r.f.Do([]byte(encoded(list("/")))); len(b) != 41+1068*47 {
		t.Errorf("%d bytes", len(b))
	}
}

func TestNamesOfAnyBytes(t *testing.T) { // P19.8: names that are no text come back as they are
	r := rigOf(t, 200, 20)
	var want []api.Entry
	for k, name := range []string{"\x01\x02", "\n", " ", "%", "\x7f", "\xc3\xa4", "\xff\xfe"} {
		done(t, r, create("/"+name))
		want = append(want, aFile(name, k+2))
	}
	r.is(list("/"), api.Answer{Entries: want})
	r.is(stat("/\xff\xfe"), api.Answer{Stat: api.Stat{Ino: 8, Kind: api.KindFile, Links: 1}})
}

func TestTheSameAgain(t *testing.T) { // R5: what was told before is all that an answer hangs on, not what was asked of others
	for range 3 {
		r := begin(t)
		first := r.f.Do([]byte(encoded(list("/"))))
		front.Bytes(write("/x", 0, "other"))
		front.Read([]byte("\x0a\x01\x00/"))
		front.ReadAnswer(first)
		r.f.Do([]byte("\xff"))
		if again := r.f.Do([]byte(encoded(list("/")))); string(again) != string(first) {
			t.Errorf("%x, then %x", first, again)
		}
	}
}
