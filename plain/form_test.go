package plain_test

import (
	"strings"
	"testing"

	"breakwater/api"
)

// wellFormed is an operation of a kind, all of whose fields that are used are not zero, and which is done in a wood.
func wellFormed(kind int) api.Op {
	o := []api.Op{
		api.OpCreate:   {Path: "/z", Made: 3},
		api.OpMkdir:    {Path: "/z", Made: 3},
		api.OpLink:     {Path: "/a", To: "/z"},
		api.OpUnlink:   {Path: "/a"},
		api.OpRmdir:    {Path: "/g"},
		api.OpRename:   {Path: "/a", To: "/z"},
		api.OpWrite:    {Path: "/a", Off: 3, Data: []byte("xyz")},
		api.OpTruncate: {Path: "/a", Off: 3},
		api.OpRead:     {Path: "/a", Off: 3, Len: 5},
		api.OpStat:     {Path: "/a"},
		api.OpList:     {Path: "/d"},
		api.OpSync:     {},
		api.OpFsync:    {Path: "/a"},
		api.OpFlush:    {Pick: 3},
	}[kind]
	o.Kind = kind
	return o
}

// usedFields tells the letters of the fields that a kind uses.
func usedFields(kind int) string {
	return []string{"", "pm", "pm", "pt", "p", "p", "pt", "pod", "po", "pol", "p", "p", "", "p", "k"}[kind]
}

// fields are all of an operation's but Kind, each by a letter, with a way to set it.
func fields() map[string]func(o *api.Op, n int) {
	return map[string]func(o *api.Op, n int){
		"p": func(o *api.Op, n int) { o.Path = "/a" },
		"t": func(o *api.Op, n int) { o.To = "/a" },
		"o": func(o *api.Op, n int) { o.Off = n },
		"l": func(o *api.Op, n int) { o.Len = n },
		"d": func(o *api.Op, n int) { o.Data = []byte{0} },
		"m": func(o *api.Op, n int) { o.Made = n },
		"k": func(o *api.Op, n int) { o.Pick = n },
	}
}

func TestKindsThatAreNone(t *testing.T) { // P16.2: ErrFSOp, whatever else there is
	r := wood(t)
	for _, kind := range []int{0, 15, -1, 16, 255, 256 + 10, 1<<32 + 10, -1<<32 + 10, minInt, maxInt} {
		r.no(api.Op{Kind: kind}, api.ErrFSOp)
		r.no(api.Op{Kind: kind, Path: "/"}, api.ErrFSOp)
		r.no(api.Op{Kind: kind, Path: "no path", To: "nor this"}, api.ErrFSOp)
	}
}

func TestFieldsThatAreNotUsed(t *testing.T) { // P16.2: each one that is not zero: ErrFSOp, ahead of the paths' errors
	for kind := api.OpCreate; kind <= api.OpFlush; kind++ {
		r := wood(t)
		for letter, set := range fields() {
			if strings.Contains(usedFields(kind), letter) {
				continue
			}
			for _, n := range []int{1, -1, minInt, maxInt} {
				o := wellFormed(kind)
				set(&o, n)
				r.no(o, api.ErrFSOp)
				if strings.Contains(usedFields(kind), "p") {
					o.Path = "no path"
					r.no(o, api.ErrFSOp)
					o.Path = ""
					r.no(o, api.ErrFSOp)
				}
			}
		}
		if a := r.do(wellFormed(kind)); a.Code != api.OK {
			t.Errorf("%s: %d", say(wellFormed(kind)), a.Code)
		}
	}
}

func TestFieldsThatAreUsed(t *testing.T) { // P16.2: numbers and Data may be zero; a path that is empty is none
	for kind := api.OpCreate; kind <= api.OpFlush; kind++ {
		r := wood(t)
		o := wellFormed(kind)
		o.Off, o.Len, o.Data, o.Made, o.Pick = 0, 0, nil, 0, 0
		if a := r.do(o); a.Code != api.OK {
			t.Errorf("%s: %d", say(o), a.Code)
		}
		if strings.Contains(usedFields(kind), "p") {
			o := wellFormed(kind)
			o.Path = ""
			r.no(o, api.ErrPathForm)
		}
		if strings.Contains(usedFields(kind), "t") {
			o := wellFormed(kind)
			o.To = ""
			r.no(o, api.ErrPathForm)
		}
	}
}

func TestDataWithoutBytes(t *testing.T) { // P16.2, R4: Data that is empty is none, whether it is nil or not
	r := wood(t)
	r.ok(write("/a", 3, []byte("xyz")))
	for _, data := range [][]byte{nil, {}, make([]byte, 0, 9)} {
		for kind := api.OpRead; kind <= api.OpFlush; kind++ {
			o := wellFormed(kind)
			o.Data = data
			r.is(o, r.p.Do(wellFormed(kind)))
		}
		r.no(write("/a", 9, data), api.OK)
		r.no(write("/a", api.MaxFile, data), api.OK)
		r.no(write("/a", api.MaxFile+1, data), api.ErrFileRange)
		r.no(write("/a", -1, data), api.ErrFileRange)
		r.no(write("/d", 0, data), api.ErrFileKind)
		r.no(write("/n", 0, data), api.ErrDirNone)
	}
}

func TestMadeAtItsEnds(t *testing.T) { // P16.2: 0 to 2^40, of both kinds that use it; ahead of the path's error
	for _, kind := range []int{api.OpCreate, api.OpMkdir} {
		r := begin(t)
		for _, made := range []int{-1, 1<<40 + 1, 1 << 41, minInt, maxInt, -1 << 40, 1<<32 - 1<<62} {
			r.no(api.Op{Kind: kind, Path: "/z", Made: made}, api.ErrFSOp)
			r.no(api.Op{Kind: kind, Path: "z", Made: made}, api.ErrFSOp)
			r.no(api.Op{Kind: kind, Path: "/", Made: made}, api.ErrFSOp)
		}
		for k, made := range []int{0, 1, 1<<32 - 1, 1 << 32, 1<<40 - 1, 1 << 40} {
			r.made(api.Op{Kind: kind, Path: "/" + count(k), Made: made}, k+2)
			if a := r.do(stat("/" + count(k))); a.Stat.Made != made {
				t.Errorf("Made %d is told as %d", made, a.Stat.Made)
			}
		}
	}
}

// badPaths are such as path refuses, and how.
func badPaths() map[string]api.Errno {
	long := strings.Repeat("/12345678901234567890123456789012345678", 10) // 390 bytes
	return map[string]api.Errno{
		"": api.ErrPathForm, "a": api.ErrPathForm, "a/b": api.ErrPathForm, " /a": api.ErrPathForm, "//": api.ErrPathForm, "//a": api.ErrPathForm,
		"/a//b": api.ErrPathForm, "/a/": api.ErrPathForm, "/d/": api.ErrPathForm, "/../": api.ErrPathForm, long + "/23456789012": api.ErrPathForm,
		"/.": api.ErrPathName, "/..": api.ErrPathName, "/d/..": api.ErrPathName, "/d/./b": api.ErrPathName, "/a\x00": api.ErrPathName, "/n/..": api.ErrPathName,
		"/" + strings.Repeat("n", 41): api.ErrPathName,
	}
}

func TestPathsThatAreNone(t *testing.T) { // P16.2: Split's error of Path, then of To; ahead of all walks
	r := wood(t)
	for kind := api.OpCreate; kind <= api.OpFlush; kind++ {
		uses := usedFields(kind)
		if !strings.Contains(uses, "p") {
			continue
		}
		for bad, want := range badPaths() {
			o := wellFormed(kind)
			o.Path = bad
			r.no(o, want)
			if !strings.Contains(uses, "t") {
				continue
			}
			for _, other := range []string{"", "b", "/..", "/", "/n/n", "/a"} { // Path ahead of To
				o.To = other
				r.no(o, want)
			}
			o.To = bad
			for _, lost := range []string{"/n/n", "/a/b", "/", "/a", "/n"} { // To ahead of what Path leads to
				o.Path = lost
				r.no(o, want)
			}
		}
	}
}

func TestPathsAtTheirEnds(t *testing.T) { // P16.2: names of 40 bytes, a path of 400, names of whatever bytes
	r := rigOf(t, 60, 20)
	at := ""
	for k := range 10 {
		at += "/" + strings.Repeat("x", 39)
		r.no(stat(at), api.ErrDirNone)
		r.made(mkdir(at), k+2)
	}
	r.no(create(at+"/x"), api.ErrPathForm)
	r.lists(at)
	for k, name := range []string{strings.Repeat("n", 40), "...", "\xff\xfe", " ", "a b", "-"} {
		r.made(create("/"+name), k+12)
		r.stats("/"+name, api.Stat{Ino: k + 12, Kind: api.KindFile, Links: 1})
	}
}
