package share_test

import (
	"slices"
	"testing"

	"breakwater/api"
)

// tight is a file system with little room and much that is dirty, so that operations have to write at once.
func tight(t *testing.T) *rig {
	t.Helper()
	r := rigOf(t, 24, 7) // 16 data sectors
	r.done(create("/a"), mkdir("/d"), mkdir("/e"), create("/b"), create("/full"), write("/a", 0, some(300)), write("/full", 0, some(600)), syncAll())
	r.done(write("/a", 5, some(7)), unlink("/full"), create("/d/c"), write("/b", 0, some(128)))
	return r
}

// writers are operations that write at once there.
func writers(t *testing.T) []api.Op {
	ops := []api.Op{write("/b", 128, some(300)), truncate("/a", 7), rename("/d", "/e/d"), fsync("/a"), syncAll()}
	for _, n := range tight(t).f.Dirty() {
		if tight(t).s.Do(flush(n)).Landed {
			ops = append(ops, flush(n))
		}
	}
	return ops
}

// isDead holds Do and Each to telling nothing but ErrFSDead, and to writing nothing, with the power and without it.
func (r *rig) isDead() {
	r.Helper()
	before := r.d.Writes()
	for range 2 {
		for _, n := range []int{0, 1, 2, 16, 17, 64} {
			r.tells(asks(n), slices.Repeat([]api.Answer{refused(api.ErrFSDead)}, n)...)
		}
		for _, o := range append(noQuestions(), asks(16)...) {
			r.is(o, refused(api.ErrFSDead))
		}
		for _, ops := range [][]api.Op{asks(65), append(asks(5), syncAll()), {{}}} {
			if l, e := r.s.Each(ops...); len(l) > 0 || e != api.ErrShareOp {
				r.Errorf("Each of %d: %d answers, %d", len(ops), len(l), e)
			}
		}
		r.d.Restart()
	}
	if n := r.d.Writes() - before; n != 0 {
		r.Errorf("%d writes of a dead one", n)
	}
}

func TestThePowerGoes(t *testing.T) { // P18.2, P18.3: at each write of an operation: ErrDiskDown; behind it Do and each answer of Each tell ErrFSDead, and what is no Each is refused yet
	for _, o := range writers(t) {
		r := tight(t)
		before := r.d.Writes()
		r.done(o)
		writes := r.d.Writes() - before
		if writes == 0 {
			t.Errorf("%s: nothing was written", say(o))
		}
		for armed := range writes {
			r := tight(t)
			r.arm(armed)
			r.is(o, refused(api.ErrDiskDown))
			r.isDead()
			again := rigOn(t, r.d)
			again.is(stat("/a"), again.each(stat("/a"))[0])
			if a := again.s.Do(stat("/a")); a.Code != api.OK || a.Stat.Ino != 2 {
				t.Errorf("%s, behind %d writes: /a is %+v", say(o), armed, a)
			}
			r.isDead()
		}
	}
}

func TestQuestionsOfAnArmedDisk(t *testing.T) { // P18.5: an Each writes nothing, so that the power does not go by it
	r, other := wood(t), wood(t)
	r.arm(0)
	r.tells(asks(64), byDo(other.f, asks(64)...)...)
	if r.d.Down() {
		t.Error("the power is off")
	}
	r.is(syncAll(), refused(api.ErrDiskDown))
	r.isDead()
}

func TestALostDisk(t *testing.T) { // R5: which question finds out that the power is off hangs on no goroutine: they are told as by as many Do in their order
	met := 0
	for seed := range 60 {
		g := gameOf(t, seed)
		for range 30 {
			g.step()
		}
		ops := append(g.questions(), g.question(), g.question(), stat("/"))
		if len(ops) > api.MaxJobs {
			continue
		}
		g.lose()
		g.disk.Arm(0)
		g.disk.Write(0, api.Sector{})
		want := byDo(g.other, ops...)
		g.tells(ops, want...)
		if slices.ContainsFunc(want, func(a api.Answer) bool { return a.Code == api.ErrDiskDown }) {
			met++
		}
	}
	if met < 20 {
		t.Errorf("%d of them have met it", met)
	}
}

func TestTheFirstMeetsIt(t *testing.T) { // R5: likewise, again and again: the first one is ErrDiskDown, all others are ErrFSDead
	ops := slices.Repeat([]api.Op{stat("/"), list("/")}, 32)
	want := append([]api.Answer{refused(api.ErrDiskDown)}, slices.Repeat([]api.Answer{refused(api.ErrFSDead)}, 63)...)
	d := madeDisk(t, 8, 2)
	for range 3000 {
		r := rigOn(t, d.Copy())
		r.lose()
		r.tells(ops, want...)
		if t.Failed() {
			return
		}
	}
}
