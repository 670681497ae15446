package share_test

import (
	"slices"
	"testing"

	"breakwater/api"
	"breakwater/share"
)

func TestExamples(t *testing.T) { // P18.1 to P18.3: the chapter's table, line by line
	if s, e := share.New(nil); s != nil || e != api.ErrArg {
		t.Errorf("New(nil): %d", e)
	}
	r := begin(t)
	r.tells(nil)
	r.tells([]api.Op{read("/a", 1, 9), stat("/n"), list("/")},
		api.Answer{Data: []byte("yz")}, refused(api.ErrDirNone), api.Answer{Entries: []api.Entry{aFile("a", 2), aDir("d", 3)}})
	r.no(api.ErrShareOp, stat("/"), syncAll())
	r.no(api.ErrShareOp, slices.Repeat([]api.Op{stat("/")}, 65)...)
	r.no(api.ErrShareOp, api.Op{})
	root := api.Answer{Stat: api.Stat{Ino: 1, Kind: api.KindDir, Links: 1, Size: 256, Blocks: 2}}
	r.tells(slices.Repeat([]api.Op{stat("/")}, 64), slices.Repeat([]api.Answer{root}, 64)...)
	r.tells([]api.Op{{Kind: api.OpStat, Path: "/", To: "x"}}, refused(api.ErrFSOp))
	r.is(write("/a", 0, "q"), api.Answer{})
	q := api.Answer{Data: []byte("q")}
	r.tells([]api.Op{read("/a", 0, 1), read("/a", 0, 1)}, q, q)
	r.arm(0)
	r.is(syncAll(), refused(api.ErrDiskDown))
	r.tells([]api.Op{stat("/")}, refused(api.ErrFSDead))
}
