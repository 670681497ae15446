package front_test

import (
	"testing"

	"breakwater/api"
)

// tight is a front over little room, with much that is dirty, so that requests have to write at once.
func tight(t *testing.T) *rig {
	t.Helper()
	r := rigOf(t, 24, 7) // 16 data sectors
	done(t, r, create("/a"), mkdir("/d"), mkdir("/e"), create("/b"), create("/full"), write("/a", 0, some(300)), write("/full", 0, some(600)), syncAll())
	done(t, r, write("/a", 5, some(7)), unlink("/full"), create("/d/c"), write("/b", 0, some(128)))
	return r
}

// writers are operations that write at once there.
func writers(t *testing.T) []api.Op {
	t.Helper()
	ops := []api.Op{write("/b", 128, some(300)), truncate("/a", 7), rename("/d", "/e/d"), fsync("/a"), syncAll()}
	before := len(ops)
	for n := range 24 {
		if tight(t).Do(flush(n)).Landed {
			ops = append(ops, flush(n))
		}
	}
	if len(ops) == before {
		t.Error("nothing may land")
	}
	return ops
}

// isDead holds requests to being answered by ErrFSDead, and what is none by ErrFrontAsk; nothing is written, with the power and without it.
func (r *rig) isDead() {
	r.Helper()
	before := r.d.Writes()
	for range 2 {
		for _, o := range sampled() {
			r.is(o, refused(api.ErrFSDead))
		}
		for _, o := range writers(r.T) {
			r.is(o, refused(api.ErrFSDead))
		}
		for _, b := range wrongs() {
			r.wrong(b)
		}
		r.d.Restart()
	}
	if n := r.d.Writes() - before; n != 0 {
		r.Errorf("%d writes of a dead one", n)
	}
}

func TestThePowerGoes(t *testing.T) { // P19.4, P19.8: at each write of a request: ErrDiskDown; behind it the front is dead, and a new one is over what a Mount finds
	for _, o := range writers(t) {
		r := tight(t)
		before := r.d.Writes()
		done(t, r, o)
		writes := r.d.Writes() - before
		if writes == 0 {
			t.Errorf("%s: nothing was written", say(o))
		}
		for armed := range writes {
			r := tight(t)
			r.arm(armed)
			r.is(o, refused(api.ErrDiskDown))
			if !r.d.Down() || r.d.Writes() != before+armed {
				t.Errorf("%s: %d writes behind Arm(%d)", say(o), r.d.Writes()-before, armed)
			}
			if armed == 0 {
				r.isDead()
			}
			r.d.Restart()
			want := told(mounted(t, r.d.Copy()))
			if got := told(rigOn(t, r.d)); got != want {
				t.Errorf("%s, behind %d writes: a new front tells\n%swant\n%s", say(o), armed, got, want)
			}
		}
	}
}

func TestAnArmedDisk(t *testing.T) { // P19.4: what is no request, and a question, write nothing, so that the power does not go by them
	r := tight(t)
	r.arm(0)
	for _, b := range wrongs() {
		r.wrong(b)
	}
	told(r)
	if r.d.Down() {
		t.Error("the power is off")
	}
	r.is(syncAll(), refused(api.ErrDiskDown))
	r.isDead()
}

func TestSafeBehindASync(t *testing.T) { // P19.8: as of the file system: what was synced is there behind a loss of power, what was not is lost
	r := rigOf(t, 60, 8)
	done(t, r, create("/a"), write("/a", 0, "kept"), syncAll())
	want := told(r)
	done(t, r, create("/lost"), mkdir("/gone"))
	r.d.Restart()
	before := r.d.Writes()
	if got := told(rigOn(t, r.d)); got != want || r.d.Writes() != before {
		t.Errorf("it tells\n%swant\n%s", got, want)
	}
}
