package path_test

import (
	"slices"
	"strings"
	"testing"

	"breakwater/api"
	"breakwater/path"
)

// steps gives numbers below a limit, the same ones at each run.
func steps(seed uint32) func(limit int) int {
	return func(limit int) int {
		seed = seed*1664525 + 1013904223
		return int(seed>>8) % limit
	}
}

// sameAsPlain holds the three calls against those written byte by byte, and tells whether they are the same.
func sameAsPlain(t *testing.T, text string) bool {
	t.Helper()
	if e, want := path.Check(text), plainCheck([]byte(text)); e != want {
		t.Errorf("Check(%q): %d, want %d", text, e, want)
		return false
	}
	names, e := path.Split(text)
	wantNames, want := plainSplit([]byte(text))
	if e != want || !slices.Equal(names, wantNames) {
		t.Errorf("Split(%q): %q, %d, want %q, %d", text, names, e, wantNames, want)
		return false
	}
	return true
}

func joinAsPlain(t *testing.T, names []string) bool {
	t.Helper()
	p, e := path.Join(names...)
	if wantPath, want := plainJoin(names); e != want || p != wantPath {
		t.Errorf("Join(%q): %q, %d, want %q, %d", names, p, e, wantPath, want)
		return false
	}
	return true
}

// backFromPath: a path that may be is that of its names.
func backFromPath(t *testing.T, p string) bool {
	t.Helper()
	names, e := path.Split(p)
	if e != api.OK {
		return true
	}
	if back, e := path.Join(names...); e != api.OK || back != p {
		t.Errorf("Join(Split(%q)): %q, %d", p, back, e)
		return false
	}
	return true
}

// backFromNames: names whose path may be are those of their path.
func backFromNames(t *testing.T, names []string) bool {
	t.Helper()
	p, e := path.Join(names...)
	if e != api.OK {
		return true
	}
	if back, e := path.Split(p); e != api.OK || !slices.Equal(back, names) {
		t.Errorf("Split(Join(%q)): %q, %d", names, back, e)
		return false
	}
	return true
}

func TestAllShortTexts(t *testing.T) { // P7.1, P7.2, P7.4
	marks := []byte{'/', '.', 'a', 0, 0xff, 0xc3, 0xa9}
	var all func(text []byte, room int) bool
	all = func(text []byte, room int) bool {
		s := string(text)
		if !sameAsPlain(t, s) || !backFromPath(t, s) {
			return false
		}
		for _, c := range marks {
			if room > 0 && !all(append(text, c), room-1) {
				return false
			}
		}
		return true
	}
	all(nil, 6)
}

func TestAllShortLists(t *testing.T) { // P7.3, P7.4
	some := []string{"", "a", "b", "aa", ".", "..", "...", "/", "a/a", "\x00", "\xff", "\xc3", "\xa9", letters(40), letters(41)}
	owner := map[string]string{}
	var all func(names []string, room int) bool
	all = func(names []string, room int) bool {
		if !joinAsPlain(t, names) || !backFromNames(t, names) {
			return false
		}
		if p, e := path.Join(names...); e == api.OK {
			told := strings.Join(names, "\x00") // no name has a 0: so two lists that are told alike are the same
			if other, there := owner[p]; there && other != told {
				t.Errorf("%q is the path of %q and of %q", p, other, told)
				return false
			}
			owner[p] = told
		}
		for _, name := range some {
			if room > 0 && !all(append(names, name), room-1) {
				return false
			}
		}
		return true
	}
	all(nil, 4)
}

// someName is a name, most often one that may be.
func someName(step func(int) int) string {
	size := 1 + step(5)
	if step(6) == 0 {
		size = 36 + step(6)
	}
	name := make([]byte, size)
	for i := range name {
		name[i] = byte(1 + step(255))
		if name[i] == '/' && step(20) > 0 {
			name[i] = '.'
		}
	}
	if step(60) == 0 {
		name[step(size)] = 0
	}
	return string(name)
}

func TestManyLists(t *testing.T) { // P7.1 to P7.5
	for seed := range uint32(3000) {
		step := steps(seed)
		names := []string{}
		for range step(1 + step(60)) {
			names = append(names, someName(step))
		}
		if !joinAsPlain(t, names) || !backFromNames(t, names) {
			return
		}
		p := "/" + strings.Join(names, "/")
		if !sameAsPlain(t, p) || !backFromPath(t, p) || !sameAsPlain(t, changed(p, step)) {
			return
		}
		if !further(t, names, someName(step)) {
			return
		}
	}
}

// changed is a text with one byte put in, taken out or written over.
func changed(text string, step func(int) int) string {
	marks := []string{"/", ".", "\x00", "\xff", "a"}
	i := step(len(text))
	mark := marks[step(len(marks))]
	switch step(3) {
	case 0:
		return text[:i] + mark + text[i:]
	case 1:
		return text[:i] + text[i+1:]
	}
	return text[:i] + mark + text[i+1:]
}

// further: the path of names and one more is that of these, a '/' and that one.
func further(t *testing.T, names []string, one string) bool {
	t.Helper()
	p, e := path.Join(names...)
	longer, f := path.Join(append(slices.Clone(names), one)...)
	if e != api.OK {
		return true
	}
	if p == "/" {
		p = ""
	}
	want, wantErr := p+"/"+one, api.OK
	if path.Check(one) != api.OK {
		want, wantErr = "", api.ErrPathName
	} else if len(want) > api.MaxPath {
		want, wantErr = "", api.ErrPathForm
	}
	if longer != want || f != wantErr {
		t.Errorf("Join(%q and %q): %q, %d, want %q, %d", names, one, longer, f, want, wantErr)
		return false
	}
	return true
}

func TestFurther(t *testing.T) { // P7.5
	for _, names := range [][]string{nil, {"a"}, {"a", "b.c"}, {"...", "\xff"}, times(9, letters(39)), times(10, letters(39)), times(199, "a"), times(200, "a")} {
		for _, one := range slices.Concat(goodNames(), wrongNames(), slashed(), []string{""}) {
			further(t, names, one)
		}
	}
}

func TestBack(t *testing.T) { // P7.4
	for _, names := range [][]string{nil, {"a"}, {"a", "a"}, {"b.c", "...", ".a"}, goodNames()[:20], times(10, letters(39)), times(200, "\xff"), times(9, letters(40))} {
		p, e := path.Join(names...)
		if e != api.OK {
			t.Fatalf("Join(%q): %d", names, e)
		}
		split(t, p, names...)
		join(t, p, names...)
	}
}

func TestListsThatComeOutAreTheCallersAlone(t *testing.T) { // R4
	for _, p := range []string{"/a", "/a/b.c", "/a/a/a", strings.Repeat("/a", 200)} {
		first, _ := path.Split(p)
		other, _ := path.Split(p)
		want := slices.Clone(other)
		spoil(first)
		if !slices.Equal(other, want) {
			t.Errorf("%q: a list that was answered earlier shares memory: %q", p, other)
		}
		split(t, p, want...)
		if again := "/" + strings.Join(want, "/"); again != p {
			t.Errorf("%q was answered as %q", p, want)
		}
	}
}

// spoil writes over a list, and over its spare room too.
func spoil(list []string) {
	list = list[:cap(list)]
	for i := range list {
		list[i] = "spoilt"
	}
}

func TestListsThatGoInStayAsTheyWere(t *testing.T) { // R4, R5
	for _, names := range [][]string{nil, {"a"}, {"a", "b", "c"}, {"a", ""}, {"..", "a"}, times(10, letters(40)), times(10, letters(39))} {
		room := append(slices.Clone(names), "x", "y", "z")
		given := room[:len(names):len(room)]
		p, e := path.Join(given...)
		if !slices.Equal(room, append(slices.Clone(names), "x", "y", "z")) {
			t.Errorf("Join(%q) wrote into its list: %q", names, room)
		}
		tight, f := path.Join(slices.Clip(slices.Clone(names))...)
		if tight != p || f != e {
			t.Errorf("Join(%q): %q, %d with spare room, %q, %d without", names, p, e, tight, f)
		}
		was := strings.Clone(p)
		spoil(room)
		if p != was {
			t.Errorf("Join(%q): its answer became %q", names, p)
		}
	}
}

func TestCallsKeepNothing(t *testing.T) { // R5, R3
	for range 3 {
		split(t, "/a/b", "a", "b")
		noSplit(t, "/a/.", api.ErrPathName)
		noSplit(t, "/a/", api.ErrPathForm)
		split(t, "/")
		join(t, "/c", "c")
		noJoin(t, api.ErrPathName, "c", "..")
		noJoin(t, api.ErrPathForm, times(201, "c")...)
		join(t, "/")
		check(t, "c", api.OK)
		check(t, "", api.ErrPathName)
	}
}
