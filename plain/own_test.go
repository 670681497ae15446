package plain_test

import (
	"slices"
	"testing"

	"breakwater/api"
	"breakwater/plain"
)

// spoil writes over a list, and over its spare room.
func spoil[T any](list []T, with T) {
	list = list[:cap(list)]
	for k := range list {
		list[k] = with
	}
}

func TestWhatIsHandedIn(t *testing.T) { // P16.5, R4: Data is not changed and not kept
	r := begin(t)
	r.made(create("/a"), 2)
	data := append(make([]byte, 0, 300), "some bytes"...)
	for k := range 20 {
		r.ok(write("/a", 128*k+120, data))
		if string(data) != "some bytes" || slices.Max(data[:300][10:]) != 0 {
			t.Fatalf("Data has changed: %q", data)
		}
	}
	big := sevens(512)
	r.ok(write("/a", 128, big)) // whole blocks
	before := state(r.p)
	spoil(data, 99)
	spoil(big, 99)
	if state(r.p) != before {
		t.Error("Data is kept")
	}
}

func TestWhatComesOut(t *testing.T) { // P16.5, R4: new memory, its spare room too
	r := wood(t)
	r.ok(write("/a", 100, sevens(300)))
	before := state(r.p)
	for range 2 {
		spoil(r.p.Do(read("/a", 0, 400)).Data, 99)
		spoil(r.p.Do(read("/a", 128, 128)).Data, 99)
		spoil(r.p.Do(list("/")).Entries, api.Entry{Name: "x", Ino: 9})
		spoil(r.p.Do(list("/d")).Entries, api.Entry{Name: "x", Ino: 9})
		if state(r.p) != before {
			t.Fatal("something that came out is kept")
		}
	}
	x, y := r.p.Do(read("/a", 128, 128)).Data, r.p.Do(read("/a", 128, 128)).Data
	l, m := r.p.Do(list("/")).Entries, r.p.Do(list("/")).Entries
	spoil(x, 99)
	spoil(l, api.Entry{})
	if slices.Max(y) != 7 || m[0] != aFile("a", 2) {
		t.Error("two answers share memory")
	}
}

func TestCopy(t *testing.T) { // P16.4: it has the same, and either may be changed in every way without the other one
	changes := [][]api.Op{
		{write("/a", 0, []byte("z"))}, {write("/a", 128, sevens(128))}, {write("/a", 5000, []byte("z"))}, {truncate("/a", 3)}, {truncate("/a", 0)}, {truncate("/a", 900)},
		{create("/x")}, {mkdir("/g/x")}, {link("/a", "/x")}, {link("/a", "/g/x")}, {unlink("/a")}, {unlink("/d/b")}, {rmdir("/g")}, {rename("/a", "/x")}, {rename("/a", "/d/b")},
		{rename("/d", "/g/d")}, {rename("/d/e", "/e")}, {unlink("/a"), mkdir("/a"), create("/a/b")}, {unlink("/d/e/f"), rmdir("/d/e"), write("/d/b", 0, sevens(1500))},
	}
	build := func() *plain.Plain {
		r := wood(t)
		r.ok(write("/a", 100, []byte("some bytes, across blocks 0 and 1")), link("/a", "/d/c"))
		r.made(create("/d/gone"), 8)
		r.ok(unlink("/d/gone"))
		return r.p
	}
	for k, ops := range changes {
		p := build()
		q := p.Copy()
		before := state(p)
		if state(q) != before {
			t.Fatalf("a copy has another state:\n%s\nwant\n%s", state(q), before)
		}
		for _, o := range ops {
			if a := q.Do(o); a.Code != api.OK {
				t.Fatalf("%s: %d", say(o), a.Code)
			}
		}
		changed := state(q)
		if changed == before || state(p) != before {
			t.Errorf("changes %d of a copy: the first one is another, or the copy is not", k)
		}
		for _, o := range ops {
			p.Do(o)
		}
		if state(p) != changed {
			t.Errorf("changes %d do another thing to the first one than to its copy", k)
		}
		p = build()
		q = p.Copy()
		for _, o := range ops {
			p.Do(o)
		}
		if state(p) != changed || state(q) != before {
			t.Errorf("changes %d of the first one: the copy is another", k)
		}
	}
}

func TestCopiesGoOn(t *testing.T) { // P16.4: a copy goes on as the first one does: its inodes, slots and room are the same, copies of copies too
	for seed := range 20 {
		g := gameOf(t, seed)
		for range 60 {
			g.step()
		}
		p, q := g.p, g.p.Copy().Copy()
		g.p = p.Copy()
		for range 60 {
			o := g.some()
			a := g.do(o)
			if b := q.Do(o); !equal(a, b) || q.Room() != g.p.Room() {
				t.Fatalf("%s: %+v, of a copy %+v", say(o), a, b)
			}
		}
		if state(q) != state(g.p) {
			t.Fatalf("seed %d: another state", seed)
		}
	}
}

func TestSideBySide(t *testing.T) { // P16.5, R5: two do not meet
	for seed := range 20 {
		a, b, alone := gameOf(t, seed), gameOf(t, seed+3), gameOf(t, seed)
		for range 60 {
			a.step()
			b.step()
		}
		for range 60 {
			alone.step()
		}
		if state(a.p) != state(alone.p) {
			t.Fatalf("seed %d: what is done side by side is another", seed)
		}
	}
}
