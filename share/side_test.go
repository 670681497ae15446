package share_test

import (
	"bytes"
	"fmt"
	"runtime"
	"slices"
	"strings"
	"sync"
	"sync/atomic"
	"testing"
	"time"

	"breakwater/api"
	"breakwater/fs"
	"breakwater/plain"
)

// atOnce runs something in so many goroutines, which begin together.
func atOnce(n int, what func(k int)) {
	gate := make(chan struct{})
	var group sync.WaitGroup
	for k := range n {
		group.Add(1)
		go func() {
			defer group.Done()
			<-gate
			what(k)
		}()
	}
	close(gate)
	group.Wait()
}

// call is a Do, or an Each, and what was answered.
type call struct {
	each bool
	ops  []api.Op
	got  []api.Answer
}

// someCall is one among few names, so that goroutines meet.
func someCall(next func(int) int) call {
	path := func() string { return "/" + []string{"x", "y", "z", "d/x", "d"}[next(5)] }
	if next(3) == 0 {
		return call{each: true, ops: []api.Op{list("/"), stat(path()), read(path(), 0, 9), list("/d"), stat("/d"), read(path(), 0, 9)}[:1+next(6)]}
	}
	ops := []api.Op{create(path()), create(path()), mkdir(path()), link(path(), path()), unlink(path()), rmdir(path()), rename(path(), path()), rename(path(), path()), write(path(), next(3), some(1+next(5))), write(path(), next(3), some(1+next(5))), truncate(path(), next(5)), syncAll()}
	return call{ops: []api.Op{ops[next(len(ops))]}}
}

// make makes a call.
func (c *call) make(t *testing.T, r *rig) {
	if !c.each {
		c.got = []api.Answer{r.s.Do(c.ops[0])}
		return
	}
	l, e := r.s.Each(c.ops...)
	if e != api.OK || len(l) != len(c.ops) {
		t.Errorf("Each of %d: %d answers, %d", len(c.ops), len(l), e)
	}
	c.got = l
}

// finder looks for an order in which calls can have been answered: those of one goroutine stand in theirs.
type finder struct {
	lines  [][]call
	failed map[string]struct{} // from where there is none
}

// order finds one, as the lines whose calls are done one behind the other.
func (f *finder) order(p *plain.Plain, at []int) ([]int, bool) {
	key := fmt.Sprint(at) + told(p)
	if _, known := f.failed[key]; known {
		return nil, false
	}
	all := true
	for k, line := range f.lines {
		if at[k] == len(line) {
			continue
		}
		all = false
		q := p.Copy()
		if !slices.EqualFunc(byDo(q, line[at[k]].ops...), line[at[k]].got, equal) {
			continue
		}
		next := slices.Clone(at)
		next[k]++
		if rest, yes := f.order(q, next); yes {
			return append([]int{k}, rest...), true
		}
	}
	if !all {
		f.failed[key] = struct{}{}
	}
	return nil, all
}

// mixed tells whether an order goes to a line again that it had left.
func mixed(order []int) bool { return len(slices.Compact(slices.Clone(order))) > slices.Max(order)+1 }

func TestAnOrder(t *testing.T) { // P18.2: what several goroutines are told, by Do and by Each, can have been told one behind the other
	met := 0
	for seed := range 150 {
		r := rigOf(t, 60, 12)
		lines := make([][]call, 4)
		for k := range lines {
			next := steps(uint32(4*seed + k))
			for range 7 {
				lines[k] = append(lines[k], someCall(next))
			}
		}
		atOnce(len(lines), func(k int) {
			for n := range lines[k] {
				lines[k][n].make(t, r)
				runtime.Gosched()
			}
		})
		f := &finder{lines, map[string]struct{}{}}
		order, yes := f.order(inMemory(t, 60, 12), make([]int, len(lines)))
		if !yes {
			t.Fatalf("seed %d: there is no order in which their answers can have come", seed)
		}
		if mixed(order) {
			met++
		}
	}
	if met == 0 {
		t.Error("the goroutines have never met")
	}
}

func TestNoOrder(t *testing.T) { // the search itself: it refuses what can not have come
	one := call{ops: []api.Op{create("/x")}, got: []api.Answer{{Stat: api.Stat{Ino: 2, Kind: api.KindFile, Links: 1}}}}
	none := call{each: true, ops: []api.Op{stat("/x")}, got: []api.Answer{refused(api.ErrDirNone)}}
	half := call{each: true, ops: []api.Op{stat("/x"), stat("/x")}, got: []api.Answer{refused(api.ErrDirNone), one.got[0]}}
	for _, x := range []struct {
		lines [][]call
		want  bool
	}{{[][]call{{one}, {none}}, true}, {[][]call{{none, one}}, true}, {[][]call{{one, none}}, false}, {[][]call{{one}, {one}}, false}, {[][]call{{one}, {half}}, false}} {
		f := &finder{x.lines, map[string]struct{}{}}
		if _, yes := f.order(inMemory(t, 40, 8), make([]int, len(x.lines))); yes != x.want {
			t.Errorf("%+v: %v", x.lines, yes)
		}
	}
}

// meanwhile does something again and again till something else has ended.
func meanwhile(again func(n int), what func()) {
	var ended atomic.Bool
	var group sync.WaitGroup
	group.Add(1)
	go func() {
		defer group.Done()
		for n := 0; !ended.Load(); n++ {
			again(n)
		}
	}()
	defer group.Wait()
	defer ended.Store(true)
	what()
}

func TestNothingComesBetween(t *testing.T) { // P18.2, P18.5: an Each is one call: all its questions are asked of one state, and of none that is older than the last one's
	r := begin(t)
	ops := slices.Repeat([]api.Op{read("/a", 0, 10)}, 64)
	last, changes := "", 0
	meanwhile(func(n int) { r.s.Do(write("/a", 0, fmt.Sprintf("%010d", n))) }, func() {
		for k := 0; k < 50 || changes < 10 && k < 20000; k++ {
			l := r.each(ops...)
			now := string(l[0].Data)
			for at, a := range l {
				if string(a.Data) != now {
					t.Fatalf("at place %d: %s, at the first %s", at, a.Data, now)
				}
			}
			if k > 0 && len(last) == 10 && now < last {
				t.Fatalf("%s behind %s", now, last)
			}
			if now != last {
				changes++
			}
			last = now
		}
	})
	if changes < 10 {
		t.Errorf("%d changes were seen", changes)
	}
}

func TestARenameMeanwhile(t *testing.T) { // P18.2: the file has one of its two names, whenever it is asked
	r := begin(t)
	names := []string{"/a", "/d/b"}
	seen := map[string]int{}
	meanwhile(func(n int) { r.s.Do(rename(names[n%2], names[(n+1)%2])) }, func() {
		for k := 0; k < 50 || len(seen) < 2 && k < 20000; k++ {
			l := r.each(stat("/a"), list("/d"), stat("/d/b"), list("/"))
			way := fmt.Sprint(l[0].Code, l[2].Code, len(l[1].Entries), len(l[3].Entries))
			seen[way]++
			if way != fmt.Sprint(api.OK, api.ErrDirNone, 0, 2) && way != fmt.Sprint(api.ErrDirNone, api.OK, 1, 1) {
				t.Fatalf("it is told: %s", way)
			}
		}
	})
	if len(seen) < 2 {
		t.Errorf("seen: %v", seen)
	}
}

func TestOneMakesIt(t *testing.T) { // P18.2: of many that make one name just one does; each making has an inode of its own
	r := rigOf(t, 400, 100)
	var made [40]atomic.Int64
	var inodes [101]atomic.Int64
	atOnce(8, func(int) {
		for k := range made {
			switch a := r.s.Do(create("/" + count(k))); a.Code {
			case api.OK:
				made[k].Add(1)
				inodes[a.Stat.Ino].Add(1)
			case api.ErrDirThere:
			default:
				t.Errorf("Create: %d", a.Code)
			}
			if l, e := r.s.Each(stat("/" + count(k))); e != api.OK || l[0].Code != api.OK {
				t.Errorf("%s is not there: %v, %d", count(k), l, e)
			}
		}
	})
	for k := range made {
		if made[k].Load() != 1 || inodes[k+2].Load() != 1 {
			t.Errorf("%s was made %d times, inode %d was taken %d times", count(k), made[k].Load(), k+2, inodes[k+2].Load())
		}
	}
}

func TestThePowerGoesAmongMany(t *testing.T) { // P18.2: one operation is answered ErrDiskDown, all behind it are ErrFSDead; an Each is told one or the other
	for armed := range 60 {
		r := rigOf(t, 100, 20)
		r.arm(armed)
		var down atomic.Int64
		atOnce(6, func(k int) {
			path := "/" + count(k)
			dead := false
			for n := range 12 {
				for _, o := range []api.Op{create(path + "x"), rename(path+"x", path), write(path, n, "data"), fsync(path), syncAll()} {
					code := r.s.Do(o).Code
					if dead && code != api.ErrFSDead {
						t.Errorf("%s: %d of a dead one", say(o), code)
					}
					if code == api.ErrDiskDown {
						down.Add(1)
					}
					dead = dead || code == api.ErrDiskDown || code == api.ErrFSDead
				}
				l, e := r.s.Each(slices.Repeat([]api.Op{stat("/"), list("/")}, 10)...)
				ends := 0
				for _, a := range l {
					if a.Code == api.ErrFSDead {
						ends++
					} else if a.Code != api.OK {
						t.Errorf("Each: %d", a.Code)
					}
				}
				if e != api.OK || len(l) != 20 || ends != 0 && ends != 20 || dead && ends == 0 {
					t.Errorf("Each: %d answers, %d of them ErrFSDead, %d", len(l), ends, e)
				}
				dead = dead || ends > 0
			}
		})
		if down.Load() != 1 {
			t.Errorf("behind %d writes: %d are answered ErrDiskDown", armed, down.Load())
		}
		r.isDead()
	}
}

func TestTwoAtOnce(t *testing.T) { // R5: two that are shared, asked by goroutines at one time, do not meet
	games := []*game{gameOf(t, 3), gameOf(t, 2), gameOf(t, 0), gameOf(t, 3)}
	atOnce(len(games), func(k int) {
		g := games[k]
		for range 150 {
			o, ops := g.some(), g.questions()
			if a, b := g.s.Do(o), g.other.Do(o); !equal(a, b) {
				t.Errorf("Do of %s: %+v, want %+v", say(o), a, b)
			}
			if l, e := g.s.Each(ops...); e != api.OK || !slices.EqualFunc(l, byDo(g.other, ops...), equal) {
				t.Errorf("Each: %d, or other answers", e)
			}
		}
	})
	for _, g := range games {
		if told(g.s) != told(g.other) || g.outside() != whole(g.other, g.disk) {
			t.Error("it is another one than that which was told the same alone")
		}
	}
}

// running is how many goroutines there are that the package has begun.
func running() int {
	text := make([]byte, 1<<20)
	text = text[:runtime.Stack(text, true)]
	return bytes.Count(text, []byte("created by breakwater/share."))
}

// ended tells whether they come to an end: the last step of one may be behind its telling that it is done.
func ended() bool {
	for range 2000 {
		if running() == 0 {
			return true
		}
		time.Sleep(time.Millisecond)
	}
	return false
}

func TestNoGoroutineIsLeft(t *testing.T) { // P18.3, R5: when Each has answered, or was refused
	r := wood(t)
	for _, n := range []int{0, 1, 15, 16, 17, 63, 64, 65} {
		for _, ops := range [][]api.Op{asks(n), append(asks(n), syncAll()), append([]api.Op{{}}, asks(n)...)} {
			r.s.Each(ops...)
			if !ended() {
				t.Fatalf("Each of %d: %d goroutines are left", len(ops), running())
			}
		}
	}
	shared(t, &fs.FS{}).Each(asks(64)...)
	r.lose()
	r.s.Each(asks(64)...)
	if !ended() {
		t.Errorf("%d goroutines are left", running())
	}
}

func TestHowManyGoroutines(t *testing.T) { // P18.3: questions are asked by goroutines, at most 16
	r := rigOf(t, 1200, 4)
	r.done(create("/a"), write("/a", 0, strings.Repeat("x", api.MaxData)))
	most := 0
	for n := 0; n < 5 || most == 0 && n < 50; n++ {
		if !ended() {
			t.Fatalf("%d goroutines are left", running())
		}
		answered := make(chan struct{})
		go func() {
			r.s.Each(slices.Repeat([]api.Op{read("/a", 0, api.MaxData)}, 64)...)
			close(answered)
		}()
	watch:
		for {
			select {
			case <-answered:
				break watch
			default:
				most = max(most, running())
			}
		}
	}
	if most < 1 || most > 16 {
		t.Errorf("%d goroutines ask", most)
	}
}
