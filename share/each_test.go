package share_test

import (
	"slices"
	"strings"
	"testing"

	"breakwater/api"
)

// asks are so many questions of a wood: each kind, near neighbours of which are answered otherwise; some are refused.
func asks(n int) []api.Op {
	var ops []api.Op
	for k := range n {
		switch k % 8 {
		case 0, 3:
			ops = append(ops, read("/a", 4*k, 1+k%5))
		case 1:
			ops = append(ops, stat("/d/"+count(k/8)))
		case 2:
			ops = append(ops, list([]string{"/", "/d", "/d/e", "/g", "/a"}[k/8%5]))
		case 4:
			ops = append(ops, stat([]string{"/", "/a", "/d", "/d/e/f", "/d/l", "/g", "/h", "/none"}[k/8%8]))
		case 5:
			ops = append(ops, read("/h", 1690+k/8*2, 9))
		case 6:
			ops = append(ops, []api.Op{stat("no path"), read("/d", 0, 1), list("/h"), read("/a", -1, 3), stat("/a/b"), read("/a", 0, api.MaxData+1), stat("/.."), {Kind: api.OpList, Path: "/", Pick: 1}}[k/8%8])
		case 7:
			ops = append(ops, read("/d/l", 4*k, 2))
		}
	}
	return ops
}

func TestEachOfSoMany(t *testing.T) { // P18.3: none, one, and at the ends of what goroutines and jobs there may be; each answer at its place
	r, other := wood(t), wood(t)
	for _, n := range []int{0, 1, 2, 3, 15, 16, 17, 31, 32, 33, 47, 48, 49, 62, 63, 64} {
		r.tells(asks(n), byDo(other.f, asks(n)...)...)
		turned := asks(n)
		slices.Reverse(turned)
		r.tells(turned, byDo(other.f, turned...)...)
	}
	for _, n := range []int{65, 66, 80, 127, 128, 129, 1000, 1 << 16} {
		r.no(api.ErrShareOp, asks(n)...)
	}
	r.tells(asks(64), byDo(other.f, asks(64)...)...)
}

func TestEachOfNone(t *testing.T) { // P18.3, R4: nil or empty: no answers, OK
	r := begin(t)
	for _, ops := range [][]api.Op{nil, {}, make([]api.Op, 0, 9)} {
		if l, e := r.s.Each(ops...); len(l) != 0 || e != api.OK {
			t.Errorf("Each of none: %v, %d", l, e)
		}
	}
}

// noQuestions are operations that are none: of each other kind, and of kinds that there are not.
func noQuestions() []api.Op {
	ops := []api.Op{
		create("/x"), mkdir("/x"), link("/a", "/x"), unlink("/a"), rmdir("/g"), rename("/a", "/x"), write("/a", 0, "x"), truncate("/a", 1), syncAll(), fsync("/a"), flush(1), flush(2), flush(9),
		write("/a", 0, ""), truncate("/a", 300), rename("/a", "/a"), create("no path"), unlink("/none"), {Kind: api.OpSync, Path: "/"},
	}
	for _, kind := range []int{0, 15, -1, -9, -10, -11, 16, 255, 256 + 9, 256 + 10, 256 + 11, 1<<16 + 10, 1<<32 + 9, 1<<32 + 10, 1<<32 + 11, minInt, minInt + 10, maxInt} {
		ops = append(ops, api.Op{Kind: kind}, api.Op{Kind: kind, Path: "/"}, api.Op{Kind: kind, Path: "/a", To: "/x", Off: 1, Len: 1, Data: []byte("x"), Made: 1, Pick: 1})
	}
	return ops
}

func TestOneThatIsNoQuestion(t *testing.T) { // P18.3: ErrShareOp, alone and wherever it stands among others; nothing of it is done
	r, other := wood(t), wood(t)
	before := told(r.s)
	for _, o := range noQuestions() {
		r.no(api.ErrShareOp, o)
		for _, n := range []int{2, 3, 16, 17, 64} {
			for _, at := range []int{0, n / 2, n - 1} {
				ops := asks(n)
				ops[at] = o
				if l, e := r.s.Each(ops...); len(l) > 0 || e != api.ErrShareOp {
					t.Errorf("%s at place %d of %d: %d answers, %d", say(o), at, n, len(l), e)
				}
			}
		}
		r.no(api.ErrShareOp, append(asks(64), o)...)
	}
	r.no(api.ErrShareOp, noQuestions()...)
	if told(r.s) != before || r.outside() != other.outside() {
		t.Error("something has changed")
	}
}

func TestNobodyIsAsked(t *testing.T) { // P18.3: where Each is refused; who asks a disk whose power is off would find out, and the file system were dead
	for _, ops := range [][]api.Op{asks(65), append(asks(64), syncAll()), append(asks(16), syncAll()), append([]api.Op{flush(1)}, asks(63)...), append(append(asks(30), mkdir("/x")), asks(30)...), {stat("/"), {}}, {{Kind: -1}, stat("/")}} {
		r := wood(t)
		before := told(r.s)
		r.lose()
		r.no(api.ErrShareOp, ops...)
		r.d.Restart()
		if told(r.s) != before {
			t.Errorf("%d operations: somebody was asked", len(ops))
		}
		r.lose()
		r.each(list("/d"), stat("/d/n1"))
		r.d.Restart()
		r.is(stat("/"), refused(api.ErrFSDead))
	}
}

func TestQuestionsThatAreRefused(t *testing.T) { // P18.3: by the file system itself: its error stands at that place, and Each is OK
	r := begin(t)
	bad := map[api.Errno][]api.Op{
		api.ErrFSOp: {
			{Kind: api.OpStat, Path: "/", To: "x"}, {Kind: api.OpStat, Path: "/", Off: 1}, {Kind: api.OpStat, Path: "/", Len: -1}, {Kind: api.OpStat, Path: "/", Data: []byte{0}},
			{Kind: api.OpList, Path: "/", Made: 1}, {Kind: api.OpList, Path: "/", Pick: minInt}, {Kind: api.OpRead, Path: "/a", Made: maxInt}, {Kind: api.OpRead, Path: "no path", To: "/a"}, {Kind: api.OpRead, Made: 1},
		},
		api.ErrPathForm:  {stat(""), stat("a"), list("/d/"), read("//a", 0, 1), read("", -1, -1), stat(strings.Repeat("/a", 201)), {Kind: api.OpRead}, {Kind: api.OpStat}, {Kind: api.OpList}},
		api.ErrPathName:  {stat("/."), list("/.."), read("/a\x00", 0, 1), stat("/" + strings.Repeat("n", 41))},
		api.ErrDirNone:   {stat("/n"), list("/n"), read("/n", 0, 1), read("/n", -1, -1), stat("/d/a"), stat("/n/n")},
		api.ErrDirKind:   {stat("/a/x"), list("/a"), list("/a/x"), read("/a/x", 0, 1)},
		api.ErrFileKind:  {read("/", 0, 1), read("/d", 0, 0), read("/d", -1, 0)},
		api.ErrFileRange: {read("/a", -1, 1), read("/a", 0, -1), read("/a", 0, api.MaxData+1), read("/a", minInt, maxInt), read("/a", 0, minInt)},
	}
	good := api.Answer{Data: []byte("xyz")}
	for want, ops := range bad {
		for _, o := range ops {
			r.tells([]api.Op{o}, refused(want))
			r.tells([]api.Op{o, read("/a", 0, 3), o, o, read("/a", 0, api.MaxData), o}, refused(want), good, refused(want), refused(want), good, refused(want))
		}
		r.tells(ops, slices.Repeat([]api.Answer{refused(want)}, len(ops))...)
	}
}

func TestQuestionsThatAreAlike(t *testing.T) { // P18.3: each has its answer, at its place
	r, other := wood(t), wood(t)
	for _, o := range []api.Op{stat("/d"), read("/a", 0, 300), list("/d"), stat("/none"), read("/h", 1699, 9)} {
		for _, n := range []int{2, 15, 16, 17, 63, 64} {
			ops := slices.Repeat([]api.Op{o}, n)
			r.tells(ops, byDo(other.f, ops...)...)
			for _, at := range []int{0, n / 2, n - 1} {
				ops := slices.Clone(ops)
				ops[at] = read("/a", 7, 7)
				r.tells(ops, byDo(other.f, ops...)...)
			}
		}
	}
}

func TestAGreatRead(t *testing.T) { // P18.3: as many great answers as there may be
	r := rigOf(t, 1200, 4)
	data := some(api.MaxData)
	r.done(create("/a"), write("/a", 9, data))
	want := api.Answer{Data: []byte(data)}
	r.tells(slices.Repeat([]api.Op{read("/a", 9, api.MaxData)}, 64), slices.Repeat([]api.Answer{want}, 64)...)
}

func TestDoBetweenEach(t *testing.T) { // P18.2, P18.3: an Each tells what was done ahead of it, and nothing that was done behind it
	r := begin(t)
	for k := range 40 {
		name, data := count(k%5), some(k+1)
		r.no(api.ErrShareOp, stat("/"), create("/"+name))
		r.done(create("/"+name), write("/"+name, 0, data))
		r.tells([]api.Op{read("/"+name, 0, 99), stat("/" + count(9)), stat("/" + name)},
			api.Answer{Data: []byte(data)}, refused(api.ErrDirNone), api.Answer{Stat: api.Stat{Ino: 4, Kind: api.KindFile, Links: 1, Size: k + 1, Blocks: 1}})
		r.done(unlink("/" + name))
		r.tells([]api.Op{stat("/" + name), read("/a", 0, 9)}, refused(api.ErrDirNone), api.Answer{Data: []byte("xyz")})
	}
}
