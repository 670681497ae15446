package path_test

import (
	"slices"
	"strings"
	"testing"

	"breakwater/api"
	"breakwater/path"
)

func letters(n int) string { return strings.Repeat("a", n) }

// times is a list that has one name n times.
func times(n int, name string) []string { return slices.Repeat([]string{name}, n) }

func check(t *testing.T, name string, want api.Errno) {
	t.Helper()
	if e := path.Check(name); e != want {
		t.Errorf("Check(%q): %d, want %d", name, e, want)
	}
}

func split(t *testing.T, p string, want ...string) {
	t.Helper()
	if names, e := path.Split(p); e != api.OK || !slices.Equal(names, want) {
		t.Errorf("Split(%q): %q, %d, want %q", p, names, e, want)
	}
}

func noSplit(t *testing.T, p string, want api.Errno) {
	t.Helper()
	if names, e := path.Split(p); e != want || len(names) != 0 {
		t.Errorf("Split(%q): %q, %d, want %d", p, names, e, want)
	}
}

func join(t *testing.T, want string, names ...string) {
	t.Helper()
	if p, e := path.Join(names...); e != api.OK || p != want {
		t.Errorf("Join(%q): %q, %d, want %q", names, p, e, want)
	}
}

func noJoin(t *testing.T, want api.Errno, names ...string) {
	t.Helper()
	if p, e := path.Join(names...); e != want || p != "" {
		t.Errorf("Join(%q): %q, %d, want %d", names, p, e, want)
	}
}

// goodNames are names that may be: the shortest and the longest, points, bytes that are no UTF-8, and runes that a '/' or a 0 is a part of, by their numbers.
func goodNames() []string {
	return []string{
		"a", "Z", " ", "\\", "\n", "\x01", "...", "....", ".a", "..a", "a.", "a..", ". ", " .", "é", "\x7f",
		"\x80", "\xff", "\xff\x01", "\xc0\xaf", "\xc0\x80", "\xe2\x82", "\xf0\x90\x80", "\xed\xa0\x80", "\xef\xbf\xbd", "\ufffd\xff",
		"\u0100", "\u012f", "\u2f00", "\u2f2f", "\U00010000", "\U0001002f", "\u2044", "\u2215", "\uff0f", "\u2024", "\uff0e\uff0e",
		letters(39), letters(40), strings.Repeat(".", 40), strings.Repeat("\xff", 40), strings.Repeat("é", 20), strings.Repeat("\U0001f30a", 10),
	}
}

// wrongNames are names that may not be, by what is wrong with them; none of them has a '/'.
func wrongNames() []string {
	return []string{
		".", "..", "\x00", "\x00\x00", "a\x00", "\x00a", "a\x00b", ".\x00", "..\x00", "\xff\x00", "\xc3\x00", "\xe2\x82\x00", "\xf0\x90\x80\x00",
		letters(39) + "\x00", letters(41), letters(42), strings.Repeat(".", 41), strings.Repeat("\xff", 41), strings.Repeat("é", 21), letters(1) + strings.Repeat("é", 20), strings.Repeat("\U0001f30a", 11), letters(40) + "\x00", letters(80),
	}
}

// slashed are names that may not be since they have a '/'.
func slashed() []string {
	return []string{"/", "//", "/a", "a/", "a/b", "./", "/.", "../..", "\xff/", "\xc3/", "\xe2\x82/", "\xf0\x90\x80/", "/\xff", letters(39) + "/", "/" + letters(39), letters(20) + "/" + letters(19)}
}

func TestCheckOfTheDocument(t *testing.T) { // P7.1
	for _, name := range []string{"a", "...", letters(40), "\xff\x01"} {
		check(t, name, api.OK)
	}
	for _, name := range []string{"", ".", "..", "a/b", "a\x00", letters(41)} {
		check(t, name, api.ErrPathName)
	}
}

func TestCheck(t *testing.T) { // P7.1
	for _, name := range goodNames() {
		check(t, name, api.OK)
	}
	for _, name := range slices.Concat(wrongNames(), slashed()) {
		check(t, name, api.ErrPathName)
	}
}

func TestCheckOfEachLength(t *testing.T) { // P7.1: bytes are counted, and no runes
	for n := range 100 {
		want := api.ErrPathName
		if n >= 1 && n <= 40 {
			want = api.OK
		}
		check(t, letters(n), want)
		check(t, strings.Repeat("\xfe", n), want)
		check(t, strings.Repeat("é", n/2)+letters(n%2), want)
		check(t, strings.Repeat("\u2f2f", n/3)+letters(n%3), want)
	}
	for _, n := range []int{255, 256, 257, 400, 401, 1 << 16, 1<<16 + 1, 1 << 20} {
		check(t, letters(n), api.ErrPathName)
	}
}

func TestCheckOfEachByteAtEachPlace(t *testing.T) { // P7.1
	for c := range 256 {
		want := api.OK
		if c == 0 || c == '/' {
			want = api.ErrPathName
		}
		for _, n := range []int{2, 3, 4, 39, 40} {
			for _, around := range []byte{'a', '.', 0xff, 0xc3, 0xe2} {
				name := []byte(strings.Repeat(string([]byte{around}), n))
				for i := range name {
					name[i] = byte(c)
					if s := string(name); s != ".." {
						check(t, s, want)
					}
					name[i] = around
				}
			}
		}
		if c != '.' {
			check(t, string([]byte{byte(c)}), want)
		}
	}
}

func TestSplitOfTheDocument(t *testing.T) { // P7.2
	split(t, "/")
	split(t, "/a", "a")
	split(t, "/a/b.c", "a", "b.c")
	for _, p := range []string{"", "a", "/a/", "//", "/a//b", "a/b", "/../"} {
		noSplit(t, p, api.ErrPathForm)
	}
	for _, p := range []string{"/.", "/a/..", "/" + letters(41)} {
		noSplit(t, p, api.ErrPathName)
	}
	ten := strings.Repeat("/"+letters(39), 10)
	split(t, ten, times(10, letters(39))...)
	noSplit(t, ten+"/", api.ErrPathForm)
}

func TestSplit(t *testing.T) { // P7.2
	for _, name := range goodNames() {
		split(t, "/"+name, name)
		split(t, "/a/"+name, "a", name)
		split(t, "/"+name+"/a", name, "a")
		split(t, "/"+name+"/"+name+"/"+name, name, name, name)
	}
	for _, name := range wrongNames() {
		noSplit(t, "/"+name, api.ErrPathName)
		noSplit(t, "/a/"+name, api.ErrPathName)
		noSplit(t, "/"+name+"/a", api.ErrPathName)
		noSplit(t, "/a/"+name+"/a", api.ErrPathName)
		noSplit(t, "/"+name+"/"+name, api.ErrPathName)
	}
}

func TestSplitOfWrongForm(t *testing.T) { // P7.2: the form comes ahead of the names
	for _, name := range slices.Concat(goodNames(), wrongNames()) {
		for _, p := range []string{
			name, name + "/a", "a/" + name, name + "/",
			"/" + name + "/", "/a/" + name + "/", "/" + name + "//",
			"//" + name, "/a//" + name, "/" + name + "//a", "/" + name + "//" + name, "///" + name, "/a///" + name,
			"\x00/" + name, "./" + name, "../" + name, " /" + name, "\xff/" + name, "\\" + name,
		} {
			noSplit(t, p, api.ErrPathForm)
		}
	}
	for n := 2; n <= 402; n++ {
		noSplit(t, strings.Repeat("/", n), api.ErrPathForm)
	}
}

func TestSplitOfEachLength(t *testing.T) { // P7.2
	split(t, "/")
	for n := 2; n <= 410; n++ {
		short := strings.Repeat("/a", n/2) + letters(n%2) // the last name has 1 or 2 bytes
		long := strings.Repeat("/"+letters(38), n/39)
		if left := n % 39; left == 1 {
			long += "b" // the last name has 39 bytes
		} else if left > 1 {
			long += "/" + letters(left-1)
		}
		for _, p := range []string{short, long} {
			if len(p) > api.MaxPath {
				noSplit(t, p, api.ErrPathForm)
			} else {
				split(t, p, strings.Split(p[1:], "/")...)
			}
		}
	}
	for n := 41; n <= 410; n++ {
		want := api.ErrPathName
		if 1+n > api.MaxPath {
			want = api.ErrPathForm
		}
		noSplit(t, "/"+letters(n), want)
	}
	for _, p := range []string{letters(400), letters(401), "/" + letters(1<<20), strings.Repeat("/a", 201), strings.Repeat("/a", 1<<16)} {
		noSplit(t, p, api.ErrPathForm)
	}
	split(t, strings.Repeat("/a", 200), times(200, "a")...)
}

func TestLengthAheadOfNamesInSplit(t *testing.T) { // P7.2, R2
	for _, name := range wrongNames() {
		noSplit(t, "/"+name+strings.Repeat("/a", 200), api.ErrPathForm)
		noSplit(t, strings.Repeat("/a", 200)+"/"+name, api.ErrPathForm)
		noSplit(t, strings.Repeat("/a", 100)+"/"+name+strings.Repeat("/a", 100), api.ErrPathForm)
	}
}

func TestJoinOfTheDocument(t *testing.T) { // P7.3
	join(t, "/")
	join(t, "/a/b", "a", "b")
	noJoin(t, api.ErrPathName, "a", "")
	join(t, strings.Repeat("/"+letters(39), 10), times(10, letters(39))...)
	noJoin(t, api.ErrPathForm, times(10, letters(40))...)
	noJoin(t, api.ErrPathName, append(times(10, letters(40)), ".")...)
}

func TestJoin(t *testing.T) { // P7.3, R4: no names and a list of none are one
	join(t, "/", []string{}...)
	join(t, "/", make([]string, 0, 5)...)
	for _, name := range goodNames() {
		join(t, "/"+name, name)
		join(t, "/a/"+name, "a", name)
		join(t, "/"+name+"/a", name, "a")
		join(t, "/"+name+"/"+name+"/"+name, name, name, name)
	}
	for _, name := range slices.Concat([]string{""}, wrongNames(), slashed()) {
		noJoin(t, api.ErrPathName, name)
		noJoin(t, api.ErrPathName, name, name)
		noJoin(t, api.ErrPathName, "a", name)
		noJoin(t, api.ErrPathName, name, "a")
		noJoin(t, api.ErrPathName, "a", name, "a")
	}
}

func TestJoinOfEachLength(t *testing.T) { // P7.3
	for n := 1; n <= 40; n++ {
		for count := range 402 {
			names := times(count, letters(n))
			want := strings.Repeat("/"+letters(n), count)
			switch {
			case count == 0:
				join(t, "/")
			case len(want) > api.MaxPath:
				noJoin(t, api.ErrPathForm, names...)
			default:
				join(t, want, names...)
			}
		}
	}
	nine := times(9, letters(39)) // 360 bytes
	join(t, strings.Repeat("/"+letters(39), 9)+"/"+letters(38), append(nine, letters(38))...)
	join(t, strings.Repeat("/"+letters(39), 9)+"/"+letters(39), append(nine, letters(39))...)
	noJoin(t, api.ErrPathForm, append(nine, letters(40))...)
	noJoin(t, api.ErrPathForm, append(nine, letters(39), "a")...)
	join(t, strings.Repeat("/a", 200), times(200, "a")...)
	noJoin(t, api.ErrPathForm, times(201, "a")...)
	noJoin(t, api.ErrPathForm, append(times(199, "a"), "bcd")...)
}

func TestNamesAheadOfLengthInJoin(t *testing.T) { // P7.3, R2
	for _, name := range slices.Concat([]string{""}, wrongNames(), slashed()) {
		for _, count := range []int{10, 11, 201, 500} {
			names := times(count, letters(40))
			for _, i := range []int{0, 1, 9, count - 2, count - 1} {
				names[i] = name
				noJoin(t, api.ErrPathName, names...)
				names[i] = letters(40)
			}
		}
	}
}

func TestJoinOfVeryManyNames(t *testing.T) { // P7.3, R1
	many := times(1<<18, letters(40))
	if p, e := path.Join(many...); p != "" || e != api.ErrPathForm {
		t.Errorf("of many names: %d bytes, %d", len(p), e)
	}
	many[len(many)-1] = ".."
	if p, e := path.Join(many...); p != "" || e != api.ErrPathName {
		t.Errorf("of many names, the last one wrong: %d bytes, %d", len(p), e)
	}
}
