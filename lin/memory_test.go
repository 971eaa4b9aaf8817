package lin_test

import (
	"slices"
	"testing"

	"synod/api"
	"synod/lin"
)

// over writes a thing all over a list and its spare room.
func over[T any](l []T, x T) {
	for i := range l[:cap(l)] {
		l[:cap(l)][i] = x
	}
	_ = append(l, x, x, x)
}

// long is a history of so many reads and writes, one behind the other, of keys in turn.
func long(n int) []api.Op {
	var h []api.Op
	for i := range n {
		h = append(h, of(string(rune('a'+i/5)), put("x", 2*i+1, 2*i+2, reply(api.RDone))))
	}
	return h
}

// Whatever is written into an answer, or behind it, neither the history nor another answer shows it.
func TestP16_6_AnswersAreNew(t *testing.T) {
	for n := range 30 {
		h := long(n)
		was := say(h)
		keys, again := lin.Keys(h), lin.Keys(h)
		order, _, _ := lin.Explain(h, "a")
		other, _, _ := lin.Explain(h, "a")
		next, _, _ := lin.Explain(h, "b")
		kept := say(again, other, next)
		over(keys, "!")
		over(order, 77)
		is(t, say(again, other, next), kept)
		is(t, say(h), was)
		is(t, say(lin.Keys(h), other, next), kept)
		over(other, 78)
		order, _, _ = lin.Explain(h, "a")
		is(t, say(again, order, next), kept)
	}
}

// What is handed in is not changed, not kept, and what lies behind it is neither read nor written.
func TestP16_6_HandedInStays(t *testing.T) {
	for n := range 30 {
		whole := append(long(n), list(api.Op{Kind: 9}, put("x", 0, 0, reply(5)), of("zz", remove(1, 2, reply(api.RDone))))...)
		was := say(whole)
		h := whole[:n]
		answers := func() string {
			ok, e := lin.Check(h)
			order, there, f := lin.Explain(h, "a")
			return say(lin.Valid(h), ok, e, order, there, f, lin.Keys(h))
		}
		before := answers()
		is(t, say(whole), was)
		is(t, before, say(api.OK, true, api.OK, firsts(min(n, 5)), true, api.OK, lin.Keys(long(n))))
		keys := lin.Keys(h)
		order, _, _ := lin.Explain(h, "a")
		kept := say(keys, order)
		back := slices.Clone(h)
		over(h, of("q", remove(3, 2, reply(9))))
		is(t, say(keys, order), kept)
		copy(h, back)
		is(t, answers(), before)
	}
}

// firsts are the first numbers.
func firsts(n int) []int {
	l := []int{}
	for i := range n {
		l = append(l, i)
	}
	return l
}

// A call knows nothing of the calls ahead of it.
func TestP16_6_NothingIsKept(t *testing.T) {
	x := put("x", 1, 2, reply(api.RDone))
	good, bad := list(x, get(3, 4, reply(api.RDone, "x"))), list(x, get(3, 4, reply(api.RNone)))
	for range 3 {
		judged(t, bad, "none")
		judged(t, good, "0 1")
		refused(t, list(put("x", 2, 1, reply(api.RDone))), api.ErrForm)
	}
}
