package fs_test

import (
	"strings"
	"testing"

	"breakwater/api"
)

// wellFormed is an operation of a kind, whose fields may be, and which is done in a used file system.
func wellFormed(kind int) api.Op {
	return []api.Op{
		api.OpCreate:   {Path: "/z", Made: 3},
		api.OpMkdir:    {Path: "/z", Made: 3},
		api.OpLink:     {Path: "/a", To: "/z"},
		api.OpUnlink:   {Path: "/a"},
		api.OpRmdir:    {Path: "/e"},
		api.OpRename:   {Path: "/a", To: "/z"},
		api.OpWrite:    {Path: "/a", Off: 3, Data: []byte("xyz")},
		api.OpTruncate: {Path: "/a", Off: 3},
		api.OpRead:     {Path: "/a", Off: 3, Len: 5},
		api.OpStat:     {Path: "/a"},
		api.OpList:     {Path: "/d"},
		api.OpSync:     {},
		api.OpFsync:    {Path: "/a"},
		api.OpFlush:    {Pick: 3},
	}[kind]
}

// fields are all of an operation's but Kind, each by a letter, with a way to set it.
func fields() map[string]func(o *api.Op, n int) {
	return map[string]func(o *api.Op, n int){
		"p": func(o *api.Op, n int) { o.Path = "/a" },
		"t": func(o *api.Op, n int) { o.To = "/a" },
		"o": func(o *api.Op, n int) { o.Off = n },
		"l": func(o *api.Op, n int) { o.Len = n },
		"d": func(o *api.Op, n int) { o.Data = []byte{0} },
		"m": func(o *api.Op, n int) { o.Made = n },
		"k": func(o *api.Op, n int) { o.Pick = n },
	}
}

func TestKindsThatAreNone(t *testing.T) { // P15.3: ErrFSOp, whatever else there is
	r := used(t)
	for _, kind := range []int{0, 15, -1, 16, 255, 256 + 10, 1<<32 + 10, -1<<32 + 10, minInt, maxInt} {
		r.no(api.Op{Kind: kind}, api.ErrFSOp)
		r.no(api.Op{Kind: kind, Path: "/"}, api.ErrFSOp)
		r.no(api.Op{Kind: kind, Path: "no path", To: "nor this"}, api.ErrFSOp)
	}
}

func TestFieldsThatAreNotUsed(t *testing.T) { // P15.3: each one that is not zero: ErrFSOp, ahead of the paths' errors
	for kind := api.OpCreate; kind <= api.OpFlush; kind++ {
		r := used(t)
		r.made(mkdir("/e"), 5)
		for letter, set := range fields() {
			if strings.Contains(usedFields(kind), letter) {
				continue
			}
			for _, n := range []int{1, -1, minInt, maxInt} {
				o := wellFormed(kind)
				o.Kind = kind
				set(&o, n)
				r.no(o, api.ErrFSOp)
				if strings.Contains(usedFields(kind), "p") {
					o.Path = "no path"
					r.no(o, api.ErrFSOp)
					o.Path = ""
					r.no(o, api.ErrFSOp)
				}
			}
		}
		o := wellFormed(kind)
		o.Kind = kind
		if a := r.f.Do(o); a.Code != api.OK {
			t.Errorf("%s: %d", say(o), a.Code)
		}
	}
}

func TestPathsThatAreUsed(t *testing.T) { // P15.3: one that is empty is none: ErrPathForm
	r := used(t)
	for kind := api.OpCreate; kind <= api.OpFlush; kind++ {
		for _, letter := range strings.Split("pt", "") {
			if !strings.Contains(usedFields(kind), letter) {
				continue
			}
			o := wellFormed(kind)
			o.Kind = kind
			if letter == "p" {
				o.Path = ""
			} else {
				o.To = ""
			}
			r.no(o, api.ErrPathForm)
		}
	}
}

func TestDataWithoutBytes(t *testing.T) { // P15.3, R4: Data that is empty is none, whether it is nil or not
	r := used(t)
	for _, data := range [][]byte{nil, {}, make([]byte, 0, 9)} {
		r.is(api.Op{Kind: api.OpStat, Path: "/", Data: data}, r.f.Do(stat("/")))
		r.is(api.Op{Kind: api.OpSync, Data: data}, api.Answer{})
		r.no(write("/a", 9, data), api.OK)
		r.no(write("/a", api.MaxFile, data), api.OK)
		r.no(write("/a", api.MaxFile+1, data), api.ErrFileRange)
		r.no(write("/d", 0, data), api.ErrFileKind)
	}
}

func TestMadeAtItsEnds(t *testing.T) { // P15.3: 0 to 2^40, of both kinds that use it; ahead of the path's error
	for _, kind := range []int{api.OpCreate, api.OpMkdir} {
		r := begin(t)
		for _, made := range []int{-1, 1<<40 + 1, 1 << 41, minInt, maxInt, -1 << 40, 1<<32 - 1<<62} {
			r.no(api.Op{Kind: kind, Path: "/z", Made: made}, api.ErrFSOp)
			r.no(api.Op{Kind: kind, Path: "z", Made: made}, api.ErrFSOp)
			r.no(api.Op{Kind: kind, Path: "/", Made: made}, api.ErrFSOp)
		}
		for k, made := range []int{0, 1, 1<<32 - 1, 1 << 32, 1<<40 - 1, 1 << 40} {
			r.made(api.Op{Kind: kind, Path: "/" + count(k), Made: made}, k+2)
		}
	}
}

// badPaths are such as path refuses, and how.
func badPaths() map[string]api.Errno {
	long := strings.Repeat("/12345678901234567890123456789012345678", 10) // 390 bytes
	return map[string]api.Errno{
		"": api.ErrPathForm, "a": api.ErrPathForm, "a/b": api.ErrPathForm, " /a": api.ErrPathForm, "//": api.ErrPathForm, "//a": api.ErrPathForm,
		"/a//b": api.ErrPathForm, "/a/": api.ErrPathForm, "/d/": api.ErrPathForm, long + "/23456789012": api.ErrPathForm,
		"/.": api.ErrPathName, "/..": api.ErrPathName, "/d/..": api.ErrPathName, "/d/./b": api.ErrPathName, "/a\x00": api.ErrPathName,
		"/" + strings.Repeat("n", 41): api.ErrPathName,
	}
}

func TestPathsThatAreNone(t *testing.T) { // P15.3: Split's error of Path, then of To; ahead of all walks
	r := used(t)
	for kind := api.OpCreate; kind <= api.OpFlush; kind++ {
		uses := usedFields(kind)
		for bad, want := range badPaths() {
			o := wellFormed(kind)
			o.Kind = kind
			if !strings.Contains(uses, "p") {
				continue
			}
			o.Path = bad
			r.no(o, want)
			if !strings.Contains(uses, "t") {
				continue
			}
			for _, other := range []string{"", "b", "/..", "/", "/n/n"} { // Path ahead of To
				o.To = other
				r.no(o, want)
			}
			o.To = bad
			for _, lost := range []string{"/n/n", "/a/b", "/", "/a"} { // To ahead of what Path leads to
				o.Path = lost
				r.no(o, want)
			}
		}
	}
}

func TestPathsAtTheirEnds(t *testing.T) { // P15.3: names of 40 bytes, a path of 400, names of whatever bytes
	r := rigOf(t, 60, 20)
	at := ""
	for range 10 {
		at += "/" + strings.Repeat("x", 39)
		r.is(stat(at), api.Answer{Code: api.ErrDirNone})
		if a := r.f.Do(mkdir(at)); a.Code != api.OK {
			t.Fatalf("Mkdir of %d bytes: %d", len(at), a.Code)
		}
	}
	r.no(create(at+"/x"), api.ErrPathForm)
	for _, name := range []string{strings.Repeat("n", 40), "...", "\xff\xfe", " ", "a b", "-"} {
		if a := r.f.Do(create("/" + name)); a.Code != api.OK {
			t.Errorf("Create %q: %d", name, a.Code)
		}
	}
}
