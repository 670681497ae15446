package plain_test

import (
	"testing"

	"breakwater/api"
)

// onPaths are the kinds that walk Path, and those that walk to the last of it.
func onPaths() (whole, last []int) {
	return []int{api.OpLink, api.OpWrite, api.OpTruncate, api.OpRead, api.OpStat, api.OpList, api.OpFsync},
		[]int{api.OpCreate, api.OpMkdir, api.OpUnlink, api.OpRmdir, api.OpRename}
}

// at is an operation of a kind with another Path, and a To that may be, if it uses one.
func at(kind int, path string) api.Op {
	o := api.Op{Kind: kind, Path: path}
	if kind == api.OpLink || kind == api.OpRename {
		o.To = "/g/new"
	}
	return o
}

func TestWalks(t *testing.T) { // P16.2: through a file: ErrDirKind; through a name that is not there: ErrDirNone; what is met first
	r := wood(t)
	whole, last := onPaths()
	for _, kind := range append(whole, last...) {
		for path, want := range map[string]api.Errno{
			"/a/b": api.ErrDirKind, "/a/b/c": api.ErrDirKind, "/d/b/x": api.ErrDirKind, "/d/e/f/x/y/z": api.ErrDirKind,
			"/n/b": api.ErrDirNone, "/n/b/c": api.ErrDirNone, "/d/n/x": api.ErrDirNone, "/g/x/y": api.ErrDirNone, "/d/e/n/b/a": api.ErrDirNone,
			"/d/a/x": api.ErrDirNone, "/A/x": api.ErrDirNone, "/d/b/a": api.ErrDirKind,
		} {
			r.no(at(kind, path), want)
		}
	}
	for _, kind := range whole {
		for _, path := range []string{"/n", "/d/n", "/d/a", "/d/e/b", "/g/a"} {
			r.no(at(kind, path), api.ErrDirNone)
		}
	}
}

func TestTheRootWhereANameIsAsked(t *testing.T) { // P16.2: ErrTreeRoot, of Path and of To; in the order of the walks
	r := wood(t)
	_, last := onPaths()
	for _, kind := range last {
		r.no(at(kind, "/"), api.ErrTreeRoot)
	}
	r.no(link("/a", "/"), api.ErrTreeRoot)
	r.no(link("/d", "/"), api.ErrTreeRoot)
	r.no(link("/", "/"), api.ErrTreeRoot)
	r.no(link("/n", "/"), api.ErrDirNone)
	r.no(link("/a/x", "/"), api.ErrDirKind)
	r.no(link("/", "/g/x"), api.ErrFileKind)
	r.no(rename("/", "/"), api.ErrTreeRoot)
	r.no(rename("/", "/n/x"), api.ErrTreeRoot)
	r.no(rename("/", "/a/x"), api.ErrTreeRoot)
	r.no(rename("/a", "/"), api.ErrTreeRoot)
	r.no(rename("/n", "/"), api.ErrTreeRoot) // that it is not there is found behind both walks
	r.no(rename("/n/x", "/"), api.ErrDirNone)
	r.no(rename("/a/x", "/"), api.ErrDirKind)
}

func TestBothWalks(t *testing.T) { // P16.2: Path's errors ahead of To's
	r := wood(t)
	for _, kind := range []int{api.OpLink, api.OpRename} {
		do := func(path, to string, want api.Errno) {
			t.Helper()
			r.no(api.Op{Kind: kind, Path: path, To: to}, want)
		}
		do("/a/x", "/n/x", api.ErrDirKind)
		do("/n/x", "/a/x", api.ErrDirNone)
		do("/a", "/n/x", api.ErrDirNone)
		do("/a", "/a/x", api.ErrDirKind)
		do("/d", "/d/b/x", api.ErrDirKind)
		do("/a", "/d/b/x/y", api.ErrDirKind)
	}
	r.no(rename("/n", "/a/x"), api.ErrDirKind) // the last name is not walked
	r.no(rename("/n", "/g/x"), api.ErrDirNone)
	r.no(rename("/n", "/n"), api.ErrDirNone)
	r.no(rename("/n", "/d"), api.ErrDirNone)
	r.no(link("/n", "/a/x"), api.ErrDirNone)
}

func TestDeepPaths(t *testing.T) { // P16.2, P16.7: what a path leads to is found however deep, and goes where its directory goes
	r := wood(t)
	r.stats("/d/e/f", api.Stat{Ino: 6, Kind: api.KindFile, Links: 1})
	r.ok(write("/d/e/f", 0, []byte("deep")), rename("/d/e", "/g/h"), rename("/g", "/i"))
	r.has("/i/h/f", "deep")
	r.no(stat("/g/h/f"), api.ErrDirNone)
	r.no(stat("/d/e"), api.ErrDirNone)
	r.lists("/i", aDir("h", 5))
	r.lists("/", aFile("a", 2), aDir("d", 3), aDir("i", 7))
}
