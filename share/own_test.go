package share_test

import (
	"fmt"
	"slices"
	"testing"

	"breakwater/api"
)

// spoil writes over a list, and over its spare room.
func spoil[T any](list []T, with T) {
	list = list[:cap(list)]
	for k := range list {
		list[k] = with
	}
}

// spoilAnswer writes over all that an answer leads to.
func spoilAnswer(a api.Answer) {
	spoil(a.Data, 99)
	spoil(a.Entries, api.Entry{Name: "spoilt", Ino: 77, Kind: 7})
}

// spoilEach writes over answers, one by one, in some order; ahead of each of these those that are left must be what they were.
func spoilEach(t *testing.T, got, want []api.Answer, order []int) {
	t.Helper()
	for k, at := range order {
		for _, left := range order[k:] {
			if !equal(got[left], want[left]) {
				t.Fatalf("the answer at place %d shares memory with another one", left)
			}
		}
		spoilAnswer(got[at])
	}
	spoil(got, api.Answer{Code: 99})
}

// orders are some of so many places.
func orders(n int) [][]int {
	var forward, odd []int
	for k := range n {
		forward = append(forward, k)
		odd = append(odd, (k*5+3)%n)
	}
	backward := slices.Clone(forward)
	slices.Reverse(backward)
	if n%5 == 0 {
		return [][]int{forward, backward}
	}
	return [][]int{forward, backward, odd}
}

func TestWhatEachAnswers(t *testing.T) { // P18.4: new memory, its spare room too; no two answers share any, of one Each or of two, nor with the file system
	r, other := wood(t), wood(t)
	alike := append(slices.Repeat([]api.Op{list("/d")}, 32), slices.Repeat([]api.Op{read("/a", 0, 300)}, 32)...)
	for _, ops := range [][]api.Op{asks(64), asks(17), alike, {read("/a", 0, 128), read("/d/l", 0, 128), list("/"), list("/")}} {
		want := byDo(other.f, ops...)
		for _, order := range orders(len(ops)) {
			first, second := r.each(ops...), r.each(ops...)
			third := byDo(r.s, ops...)
			spoilEach(t, first, want, order)
			spoilEach(t, third, want, order)
			spoilEach(t, second, want, order)
			r.tells(ops, want...)
		}
	}
	if told(r.s) != told(other.f) || r.outside() != other.outside() {
		t.Error("the file system has changed by what was written over")
	}
}

// opsText is all of some operations, their spare room too.
func opsText(ops []api.Op) string { return fmt.Sprintf("%+v", ops[:cap(ops)]) }

func TestWhatEachIsHanded(t *testing.T) { // P18.4: it is not changed, its spare room neither, and not kept
	r, other := wood(t), wood(t)
	for _, n := range []int{0, 1, 16, 17, 64} {
		ops := append(make([]api.Op, 0, 70), asks(n)...)
		before := opsText(ops)
		got := r.each(ops...)
		if opsText(ops) != before {
			t.Errorf("the %d questions have changed", n)
		}
		spoil(ops, unlink("/a"))
		want := byDo(other.f, asks(n)...)
		for k := range got {
			if !equal(got[k], want[k]) {
				t.Errorf("the answer at place %d has changed with its question", k)
			}
		}
		r.tells(asks(n), want...)
	}
	for _, ops := range [][]api.Op{asks(65), append(asks(20), noQuestions()...)} {
		before := opsText(ops)
		r.no(api.ErrShareOp, ops...)
		if opsText(ops) != before {
			t.Error("operations that are refused have changed")
		}
		spoil(ops, unlink("/a"))
	}
	if told(r.s) != told(other.f) {
		t.Error("something of it was kept")
	}
}

func TestWhatDoIsHanded(t *testing.T) { // P18.4: bytes that are written are neither changed nor kept
	r := begin(t)
	data := append(make([]byte, 0, 900), some(700)...)
	o := api.Op{Kind: api.OpWrite, Path: "/a", Data: data}
	r.is(o, api.Answer{})
	if string(data) != some(700) || slices.Max(data[:900][700:]) != 0 {
		t.Error("the bytes have changed")
	}
	spoil(data, 99)
	r.is(read("/a", 0, 900), api.Answer{Data: []byte(some(700))})
	r.done(syncAll())
	rigOn(t, r.d.Copy()).tells([]api.Op{read("/a", 0, 900)}, api.Answer{Data: []byte(some(700))})
}

func TestDataOfAQuestion(t *testing.T) { // P18.3, P18.4, R4: no bytes, nil or not, are none; bytes make it one that may not be, and stay what they are
	r := begin(t)
	for _, data := range [][]byte{nil, {}, make([]byte, 0, 9)} {
		r.tells([]api.Op{{Kind: api.OpRead, Path: "/a", Len: 2, Data: data}}, api.Answer{Data: []byte("xy")})
		if cap(data) > 0 && slices.Max(data[:cap(data)]) != 0 {
			t.Error("something was written behind the question's bytes")
		}
	}
	data := []byte("data")
	r.tells([]api.Op{{Kind: api.OpRead, Path: "/a", Len: 2, Data: data}}, refused(api.ErrFSOp))
	if string(data) != "data" {
		t.Error("the question's bytes have changed")
	}
}
