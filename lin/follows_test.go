package lin_test

import (
	"fmt"
	"math/rand/v2"
	"slices"
	"testing"

	"synod/api"
	"synod/lin"
)

// mark is which operations are done, and the key as they left it.
type mark struct {
	done  int
	there bool
	value string
}

// goesOn tells whether an order of a key's operations begins with a front: all that may stand behind it is gone over, each as far as the others.
func goesOn(h []api.Op, key string, front []int) bool {
	l := numbers(h, key)
	must := 0
	for k, i := range l {
		if h[i].Back != 0 {
			must |= 1 << k
		}
	}
	level := map[mark]int{{}: 1}
	for at := 0; len(level) > 0; at++ {
		next := map[mark]int{}
		for m := range level {
			if at >= len(front) && m.done&must == must {
				return true
			}
			for k, i := range l {
				if at < len(front) && front[at] != i {
					continue
				}
				if then, ok := behind(h, l, m, k); ok {
					next[then] = 1
				}
			}
		}
		level = next
	}
	return false
}

// behind is what the k-th of a key's operations leads to, if it may be the next one.
func behind(h []api.Op, l []int, m mark, k int) (mark, bool) {
	x := h[l[k]]
	if m.done>>k&1 == 1 {
		return m, false
	}
	for j, i := range l {
		if m.done>>j&1 == 0 && h[i].Back != 0 && h[i].Back < x.Call {
			return m, false
		}
	}
	pairs := map[string]string{}
	if m.there {
		pairs[x.Key] = m.value
	}
	r := told(pairs, x)
	value, there := pairs[x.Key]
	return mark{m.done | 1<<k, there, value}, x.Back == 0 || r == x.Reply
}

// The answer keeps the conditions; nothing that is ahead of it, place by place, leads to an order.
func TestP16_7_ItIsAnOrder(t *testing.T) {
	r := rand.New(rand.NewPCG(7, 16))
	seen := map[string]int{}
	for range 5000 {
		h := anyHistory(r, 6+r.IntN(18))
		if lin.Valid(h) != api.OK {
			continue
		}
		order, ok, e := lin.Explain(h, "a")
		if e != api.OK || ok != goesOn(h, "a", nil) {
			t.Fatalf("have %v %v %d of\n%s", order, ok, e, showAll(h))
		}
		seen[fmt.Sprint(ok, " of ", len(numbers(h, "a")))]++
		if !ok {
			continue
		}
		if !explains(h, "a", order) {
			t.Fatalf("%v explains nothing of\n%s", order, showAll(h))
		}
		for at := range order {
			if explains(h, "a", order[:at]) {
				t.Fatalf("%v is ahead of %v of\n%s", order[:at], order, showAll(h))
			}
			for _, i := range numbers(h, "a") {
				front := append(slices.Clone(order[:at]), i)
				if i < order[at] && goesOn(h, "a", front) {
					t.Fatalf("%v .. is ahead of %v of\n%s", front, order, showAll(h))
				}
			}
		}
	}
	for _, s := range []string{"true of 4", "false of 4", "true of 9", "false of 9", "true of 11", "false of 11", "true of 12", "false of 12"} {
		if seen[s] < 20 {
			t.Errorf("%s: only %d times", s, seen[s])
		}
	}
}

// judge tells whether a history that may be judged is judged true.
func judge(t *testing.T, h []api.Op) bool {
	t.Helper()
	ok, e := lin.Check(h)
	if e != api.OK {
		t.Fatalf("have %d of\n%s", e, showAll(h))
	}
	return ok
}

// stays holds that a history is true, as the one was that it was made of; one that may not be judged is left.
func stays(t *testing.T, h, was []api.Op, how string) {
	t.Helper()
	if lin.Valid(h) == api.ErrMany {
		return
	}
	if !judge(t, h) {
		t.Fatalf("%s, it isn't true any more:\n%s was\n%s", how, showAll(h), showAll(was))
	}
}

// truth is a history that is true: from a map, or spoilt so that it stayed true.
func truth(t *testing.T, r *rand.Rand) []api.Op {
	t.Helper()
	for {
		h := anyHistory(r, r.IntN(16))
		if lin.Valid(h) == api.OK && judge(t, h) {
			return h
		}
	}
}

// What came from a map is true.
func TestP16_8_FromAMap(t *testing.T) {
	r := rand.New(rand.NewPCG(80, 16))
	for range 3000 {
		h := real(r, r.IntN(20), r.IntN(30))
		stays(t, h, h, "from a map")
	}
}

func TestP16_8_LessIsEasier(t *testing.T) {
	r := rand.New(rand.NewPCG(8, 16))
	for range 1000 {
		h := truth(t, r)
		for i, x := range h {
			without := slices.Delete(slices.Clone(h), i, i+1)
			changed := slices.Clone(h)
			switch {
			case x.Kind == api.OpGet:
				stays(t, without, h, "without a read")
			case x.Back == 0:
				leftOut(t, h, i)
			default:
				changed[i] = opened(x)
				stays(t, changed, h, "with an open write")
			}
			if x.Back != 0 {
				changed[i] = x
				changed[i].Back += 1 + r.IntN(20)
				stays(t, changed, h, "with a later Back")
			}
		}
		more := some(r)
		more.Kind, more.Call = api.OpPut+r.IntN(3), 1+r.IntN(40)
		stays(t, slices.Insert(slices.Clone(h), r.IntN(len(h)+1), more), h, "with one more open write")
	}
}

// leftOut holds that an open write that an order leaves out may be missing.
func leftOut(t *testing.T, h []api.Op, i int) {
	t.Helper()
	order, _, _ := lin.Explain(h, h[i].Key)
	if slices.Contains(order, i) {
		return
	}
	without := slices.Delete(slices.Clone(h), i, i+1)
	stays(t, without, h, "without what was left out")
	for k, n := range order {
		if n > i {
			order[k]--
		}
	}
	have, _, _ := lin.Explain(without, h[i].Key)
	is(t, have, order)
}

func TestP16_9_OneBehindTheOther(t *testing.T) {
	r := rand.New(rand.NewPCG(9, 16))
	seen := map[bool]int{}
	for range 4000 {
		type pair struct {
			there bool
			value string
		}
		keys := map[string]pair{}
		want, now := true, 0
		var h []api.Op
		for range r.IntN(13) {
			x := some(r)
			x.Call = now + 1 + r.IntN(2)
			x.Back = x.Call + r.IntN(2)
			now = x.Back
			p := keys[x.Key]
			p.there, p.value, x.Reply = lin.Step(p.there, p.value, x)
			keys[x.Key] = p
			if r.IntN(12) == 0 {
				was := x.Reply
				x.Reply = pick(r, reply(api.RDone), reply(api.RNone), reply(api.ROther, "x"), reply(api.RDone, "y"))
				want = want && x.Reply == was
			}
			h = append(h, x)
		}
		seen[want]++
		if judge(t, h) != want {
			t.Fatalf("want %v of\n%s", want, showAll(h))
		}
		order, ok, _ := lin.Explain(h, "a")
		if ok && !slices.Equal(order, numbers(h, "a")) {
			t.Fatalf("%v of\n%s", order, showAll(h))
		}
		r.Shuffle(len(h), func(i, j int) { h[i], h[j] = h[j], h[i] })
		if judge(t, h) != want {
			t.Fatalf("shuffled: want %v of\n%s", want, showAll(h))
		}
	}
	if seen[true] < 500 || seen[false] < 500 {
		t.Error(seen)
	}
}

// all is what is told of a history: its judgement, its keys, their orders.
func all(h []api.Op) string {
	ok, e := lin.Check(h)
	s := say(ok, e, lin.Valid(h))
	for _, key := range lin.Keys(h) {
		order, ok, e := lin.Explain(h, key)
		s += fmt.Sprintf("; %q %v %v %d", key, order, ok, e)
	}
	return s
}

func TestP16_10_ClientsAndSeqs(t *testing.T) {
	r := rand.New(rand.NewPCG(10, 16))
	for range 1000 {
		h := anyHistory(r, r.IntN(16))
		was := all(h)
		for i := range h {
			h[i].Client, h[i].Seq = pick(r, append(far(), 0, 1, 2)...), pick(r, append(far(), 0, 1, 2)...)
		}
		is(t, all(h), was)
	}
}

func TestP16_10_OrderOfTheList(t *testing.T) {
	r := rand.New(rand.NewPCG(100, 16))
	for range 1500 {
		h := anyHistory(r, r.IntN(16))
		verdicts := func() string {
			ok, e := lin.Check(h)
			s := say(ok, e, lin.Keys(h))
			for _, key := range lin.Keys(h) {
				_, ok, e := lin.Explain(h, key)
				s += say("", ok, e)
			}
			return s
		}
		was := verdicts()
		for range 4 {
			r.Shuffle(len(h), func(i, j int) { h[i], h[j] = h[j], h[i] })
			is(t, verdicts(), was)
		}
	}
}

// With what does not count among it, a history is explained by the same operations.
func TestP16_10_WhatDoesNotCount(t *testing.T) {
	r := rand.New(rand.NewPCG(101, 16))
	for range 1500 {
		var h []api.Op
		for _, x := range anyHistory(r, r.IntN(16)) {
			if lin.Counts(x) {
				h = append(h, x)
			}
		}
		var wide []api.Op
		var place []int // where each one of h stands in wide
		for _, x := range h {
			wide = append(wide, idle(r)...)
			place = append(place, len(wide))
			wide = append(wide, x)
		}
		wide = append(wide, idle(r)...)
		ok, e := lin.Check(h)
		again, f := lin.Check(wide)
		is(t, say(again, f, lin.Keys(wide)), say(ok, e, lin.Keys(h)))
		for _, key := range lin.Keys(h) {
			order, ok, e := lin.Explain(h, key)
			for k, i := range order {
				order[k] = place[i]
			}
			have, again, f := lin.Explain(wide, key)
			is(t, say(have, again, f), say(order, ok, e))
		}
	}
}

// idle are some operations that don't count.
func idle(r *rand.Rand) []api.Op {
	var l []api.Op
	for range r.IntN(4) {
		x := some(r)
		x.Call = 1 + r.IntN(40)
		if r.IntN(3) == 0 {
			x.Kind = api.OpGet
		} else {
			x.Back = x.Call + r.IntN(9)
			x.Reply = reply(api.ROld+r.IntN(7), pick(r, "", "x"))
		}
		l = append(l, x)
	}
	return l
}

// Of times nothing counts but which is below which.
func TestP16_10_TimesInTheirOrder(t *testing.T) {
	r := rand.New(rand.NewPCG(102, 16))
	for range 500 {
		h := anyHistory(r, r.IntN(16))
		was := all(h)
		for i := range h {
			h[i].Call *= 1 << 40
			h[i].Back *= 1 << 40
		}
		is(t, all(h), was)
	}
}
