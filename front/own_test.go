package front_test

import (
	"slices"
	"testing"

	"breakwater/api"
	"breakwater/front"
)

// spoil writes over a list, and over its spare room.
func spoil[T any](list []T, with T) {
	list = list[:cap(list)]
	for k := range list {
		list[k] = with
	}
}

// spoilAnswer writes over all that an answer leads to.
func spoilAnswer(a api.Answer) {
	spoil(a.Data, 99)
	spoil(a.Entries, api.Entry{Name: "spoilt", Ino: 77, Kind: 7})
}

// roomy are bytes with spare room behind them.
func roomy(b string) []byte { return append(make([]byte, 0, len(b)+300), b...) }

// untouched holds bytes, and their spare room, to being what roomy gave.
func untouched(t *testing.T, b []byte, want string) {
	t.Helper()
	if string(b) != want || slices.Max(b[:len(want)+300][len(want):]) != 0 {
		t.Errorf("bytes that were handed in have changed: %.100x", want)
	}
}

func TestWhatBytesHas(t *testing.T) { // P19.6: new memory, its spare room too; Data is neither changed nor kept
	for _, o := range []api.Op{write("/a", 3, some(200)), write("", 0, some(1<<17)), write("/a", 0, ""), stat("/a"), syncAll()} {
		want := encoded(o)
		data := string(o.Data)
		o.Data = roomy(data)
		first, _ := front.Bytes(o)
		second, _ := front.Bytes(o)
		untouched(t, o.Data, data)
		spoil(first, 99)
		untouched(t, o.Data, data)
		spoil(o.Data, 98)
		if string(second) != want {
			t.Errorf("Bytes of %s share memory", say(o))
		}
	}
	for _, o := range []api.Op{{Kind: api.OpStat, Path: "/", Data: roomy("x")}, {Kind: 15, Data: roomy("x")}} {
		hasNone(t, o)
		untouched(t, o.Data, "x")
	}
}

func TestWhatReadHas(t *testing.T) { // P19.6: likewise
	for _, o := range []api.Op{write("/a", 3, some(200)), write("/b", 0, some(1<<17)), write("", 0, ""), rename("/a", "/b"), stat(long(400))} {
		b := roomy(encoded(o))
		first, _ := front.Read(b)
		second, _ := front.Read(b)
		untouched(t, b, encoded(o))
		spoil(first.Data, 99)
		untouched(t, b, encoded(o))
		spoil(b, 98)
		if !equalOps(second, o) {
			t.Errorf("Read of the bytes of %s shares memory", say(o))
		}
	}
	for _, wrong := range wrongs() {
		b := roomy(wrong)
		front.Read(b)
		front.ReadAnswer(b)
		untouched(t, b, wrong)
	}
}

func TestWhatReadAnswerHas(t *testing.T) { // P19.6: likewise; Data and Entries share nothing
	for _, want := range answers() {
		b := roomy(encodedAnswer(want))
		first, _ := front.ReadAnswer(b)
		second, _ := front.ReadAnswer(b)
		untouched(t, b, encodedAnswer(want))
		spoil(first.Data, 99)
		if !slices.Equal(first.Entries, want.Entries) {
			t.Error("Data and Entries share memory")
		}
		spoilAnswer(first)
		untouched(t, b, encodedAnswer(want))
		spoil(b, 98)
		if !equal(second, want) {
			t.Errorf("ReadAnswer shares memory: %s", sayAnswer(second))
		}
	}
}

func TestWhatDoIsHanded(t *testing.T) { // P19.6: of the request nothing is changed, and nothing kept
	r := rigOf(t, 60, 8)
	ask := func(o api.Op) {
		b := roomy(encoded(o))
		got := r.f.Do(b)
		if string(got) != encodedAnswer(api.Answer{}) && o.Kind != api.OpCreate && o.Kind != api.OpMkdir {
			t.Errorf("%s: %.100x", say(o), got)
		}
		untouched(t, b, encoded(o))
		spoil(b, 99)
	}
	for _, o := range []api.Op{mkdir("/dir"), create("/dir/file"), write("/dir/file", 5, some(700)), link("/dir/file", "/other"), rename("/dir/file", "/dir/new")} {
		ask(o)
	}
	hold := func(r *rig) {
		r.is(list("/"), api.Answer{Entries: []api.Entry{aDir("dir", 2), aFile("other", 3)}})
		r.is(list("/dir"), api.Answer{Entries: []api.Entry{aFile("new", 3)}})
		r.is(read("/dir/new", 5, 1000), api.Answer{Data: []byte(some(700))})
	}
	hold(r)
	ask(syncAll())
	hold(rigOn(t, r.d.Copy()))
	for _, wrong := range wrongs() {
		b := roomy(wrong)
		r.f.Do(b)
		untouched(t, b, wrong)
		spoil(b, 99)
	}
	hold(r)
}

func TestWhatDoAnswers(t *testing.T) { // P19.6: new memory, its spare room too, also where the request is none, or the front is
	r, other := begin(t), begin(t)
	dead := begin(t)
	dead.arm(0)
	dead.is(syncAll(), refused(api.ErrDiskDown))
	var none *front.Front
	requests := append(wrongs()[:6], encoded(list("/")), encoded(list("/d")), encoded(read("/a", 0, 300)), encoded(stat("/a")), encoded(stat("/n")), encoded(syncAll()), encoded(flush(1)))
	for _, b := range requests {
		for _, f := range []*front.Front{r.f, dead.f, none} {
			request := roomy(b)
			first, second := f.Do(request), f.Do(request)
			want := string(second)
			spoil(first, 99)
			if string(second) != want || string(f.Do(request)) != want {
				t.Errorf("two answers to %.50x share memory", b)
			}
			untouched(t, request, b)
			spoil(second, 98)
		}
		other.f.Do([]byte(b))
	}
	if told(r) != told(other) || r.outside() != other.outside() {
		t.Error("the file system has changed by what was written over")
	}
}

func TestTwoFronts(t *testing.T) { // R5: side by side they do not meet, also where the one's disk is a copy of the other's, or the one is dead
	a := begin(t)
	done(t, a, syncAll())
	b := rigOn(t, a.d.Copy())
	before := told(b)
	done(t, a, write("/a", 0, "A"), unlink("/d/f"), create("/b"))
	if told(b) != before {
		t.Error("the one has changed by the other")
	}
	done(t, b, write("/a", 0, "B"), mkdir("/d/x"))
	a.is(read("/a", 0, 9), api.Answer{Data: []byte("Anew")})
	a.is(list("/"), api.Answer{Entries: []api.Entry{aFile("a", 2), aFile("b", 4), aDir("d", 3)}})
	a.arm(0)
	a.is(syncAll(), refused(api.ErrDiskDown))
	b.is(read("/a", 0, 9), api.Answer{Data: []byte("Bnew")})
	b.is(list("/d"), api.Answer{Entries: []api.Entry{aFile("f", 4), aFile("l", 2), aDir("x", 5)}})
	a.is(read("/a", 0, 9), refused(api.ErrFSDead))
	done(t, b, syncAll())
	if told(rigOn(t, b.d.Copy())) != told(b) {
		t.Error("what was synced is not there")
	}
}

func TestTwoThatAreAskedInTurn(t *testing.T) { // R5: whatever comes between, each answers as one that is alone
	next := steps(2)
	pair := []*game{gameOf(t, 4), gameOf(t, 9)}
	for range 400 {
		pair[next(2)].step()
	}
	for _, g := range pair {
		g.same()
	}
}
