package lin_test

import (
	"fmt"
	"math/rand/v2"
	"slices"
	"testing"

	"synod/api"
	"synod/lin"
)

// A model of the chapter: every order there is, one by one, is held against the conditions as they are written.

// counts is P16.2's word.
func counts(x api.Op) bool {
	told := x.Reply.Code
	return x.Back == 0 && x.Kind != api.OpGet || x.Back != 0 && (told == api.RDone || told == api.RNone || told == api.ROther)
}

// told does an operation to a map of keys, and is the reply.
func told(m map[string]string, x api.Op) api.Reply {
	value, there := m[x.Key]
	if !there && x.Kind != api.OpPut {
		return api.Reply{Code: api.RNone}
	}
	switch x.Kind {
	case api.OpGet:
		return api.Reply{Code: api.RDone, Value: value}
	case api.OpDelete:
		delete(m, x.Key)
	case api.OpSwap:
		if value != x.Old {
			return api.Reply{Code: api.ROther, Value: value}
		}
		m[x.Key] = x.Value
	case api.OpPut:
		m[x.Key] = x.Value
	}
	return api.Reply{Code: api.RDone}
}

// explains tells whether an order keeps P16.4's conditions.
func explains(h []api.Op, key string, order []int) bool {
	m := map[string]string{}
	for at, i := range order {
		x := h[i]
		if x.Key != key || !counts(x) || slices.Contains(order[:at], i) {
			return false
		}
		for _, j := range order[at:] {
			if h[j].Back != 0 && h[j].Back < x.Call {
				return false
			}
		}
		if r := told(m, x); x.Back != 0 && r != x.Reply {
			return false
		}
	}
	for i, x := range h {
		if x.Key == key && counts(x) && x.Back != 0 && !slices.Contains(order, i) {
			return false
		}
	}
	return true
}

// firstOf goes over all orders of numbers, the first ones ahead, behind a front, till one explains the key.
func firstOf(h []api.Op, key string, numbers, front []int) ([]int, bool) {
	if explains(h, key, front) {
		return front, true
	}
	for _, i := range numbers {
		if !slices.Contains(front, i) {
			if order, ok := firstOf(h, key, numbers, append(slices.Clone(front), i)); ok {
				return order, true
			}
		}
	}
	return nil, false
}

// numbers are those of a key's operations that count.
func numbers(h []api.Op, key string) []int {
	var l []int
	for i, x := range h {
		if x.Key == key && counts(x) {
			l = append(l, i)
		}
	}
	return l
}

// pick is any one of a list.
func pick[T any](r *rand.Rand, l ...T) T { return l[r.IntN(len(l))] }

// some is an operation of any kind.
func some(r *rand.Rand) api.Op {
	x := api.Op{Client: r.IntN(4), Seq: r.IntN(9), Kind: 1 + r.IntN(4), Key: pick(r, "a", "a", "a", "b", "")}
	if x.Kind == api.OpPut || x.Kind == api.OpSwap {
		x.Value = pick(r, "", "x", "y")
	}
	if x.Kind == api.OpSwap {
		x.Old = pick(r, "", "x", "y")
	}
	return x
}

// real is a history that came from a map: each operation has effect at a time of its own, and is called and answered around it, at most so far away.
func real(r *rand.Rand, n, wide int) []api.Op {
	m := map[string]string{}
	var h []api.Op
	for i := range n {
		x := some(r)
		at := 1 + wide + 2*i
		x.Call, x.Back = at-r.IntN(wide+1), at+r.IntN(wide+1)
		switch r.IntN(10) {
		case 0: // nobody was told
			told(m, x)
			x.Back = 0
		case 1: // it had no effect, and nobody was told
			x.Back = 0
		case 2:
			x.Reply.Code = api.ROld + r.IntN(7)
		default:
			x.Reply = told(m, x)
		}
		h = append(h, x)
	}
	r.Shuffle(len(h), func(i, j int) { h[i], h[j] = h[j], h[i] })
	return h
}

// spoil changes something of a history, so that it may be judged still.
func spoil(r *rand.Rand, h []api.Op) {
	if len(h) == 0 {
		return
	}
	x := &h[r.IntN(len(h))]
	switch r.IntN(5) {
	case 0:
		if x.Back != 0 {
			x.Reply = pick(r, reply(api.RDone), reply(api.RNone), reply(api.RDone, "x"), reply(api.RDone, "y"), reply(api.ROther, "x"), reply(api.ROther))
		}
	case 1:
		if x.Back != 0 {
			x.Back = x.Call + r.IntN(x.Back-x.Call+1)
		}
	case 2:
		x.Call += r.IntN(5)
		if x.Back != 0 {
			x.Back = max(x.Back, x.Call)
		}
	case 3:
		x.Value = pick(r, "", "x", "y")
	case 4:
		x.Kind = 1 + r.IntN(4)
	}
}

// anyHistory is any one: from a map, or spoilt.
func anyHistory(r *rand.Rand, n int) []api.Op {
	h := real(r, n, r.IntN(12))
	for range pick(r, 0, 1, 1, 2, 5) {
		spoil(r, h)
	}
	return h
}

// Every order of a few operations, held against the one that is answered.
func TestP16_4_AsAllOrders(t *testing.T) {
	r := rand.New(rand.NewPCG(4, 16))
	seen := map[string]int{}
	for range 10000 {
		h := anyHistory(r, r.IntN(8))
		all := true
		for _, key := range []string{"a", "b", "", "c"} {
			l := numbers(h, key)
			want, ok := firstOf(h, key, l, nil)
			order, is, e := lin.Explain(h, key)
			if !slices.Equal(order, want) || is != ok || e != api.OK {
				t.Fatalf("%q: have %v %v %d; want %v %v of\n%s", key, order, is, e, want, ok, showAll(h))
			}
			all = all && ok
			seen[fmt.Sprint(ok, " of ", len(l))]++
			if len(want) < len(l) && ok {
				seen["left out"]++
			}
		}
		if ok, e := lin.Check(h); ok != all || e != api.OK {
			t.Fatalf("P16.5: have %v %d; want %v of\n%s", ok, e, all, showAll(h))
		}
	}
	for _, s := range []string{"true of 0", "true of 1", "false of 1", "true of 3", "false of 3", "true of 5", "false of 5", "true of 6", "false of 6", "left out"} {
		if seen[s] < 20 {
			t.Errorf("%s: only %d times", s, seen[s])
		}
	}
}

// Any lists of operations, wrong ones too, as the chapter says it.
func TestP16_1_AsItIsWritten(t *testing.T) {
	r := rand.New(rand.NewPCG(1, 16))
	seen := map[api.Errno]int{}
	for range 20000 {
		h := anyHistory(r, r.IntN(24))
		for range pick(r, 0, 0, 1, 3) {
			if len(h) > 0 {
				twist(r, &h[r.IntN(len(h))])
			}
		}
		want := fault(h)
		seen[want]++
		if e := lin.Valid(h); e != want {
			t.Fatalf("have %d; want %d of\n%s", e, want, showAll(h))
		}
		if ok, e := lin.Check(h); e != want || ok && e != api.OK {
			t.Fatalf("Check: have %v %d; want %d of\n%s", ok, e, want, showAll(h))
		}
	}
	for _, e := range []api.Errno{api.OK, api.ErrMany, api.ErrKind, api.ErrForm} {
		if seen[e] < 100 {
			t.Errorf("%d: only %d times", e, seen[e])
		}
	}
}

// twist makes an operation wrong, perhaps.
func twist(r *rand.Rand, x *api.Op) {
	switch r.IntN(5) {
	case 0:
		x.Kind = r.IntN(8) - 1
	case 1:
		x.Call = r.IntN(5) - 2
	case 2:
		x.Back = r.IntN(9) - 3
	case 3:
		x.Reply.Code = r.IntN(16) - 2
	case 4:
		x.Reply.Value = pick(r, "", "x")
	}
}

// fault is P16.1, word by word.
func fault(h []api.Op) api.Errno {
	if len(h) > 400 {
		return api.ErrMany
	}
	for _, x := range h {
		if x.Kind != api.OpGet && x.Kind != api.OpPut && x.Kind != api.OpDelete && x.Kind != api.OpSwap {
			return api.ErrKind
		}
		early := x.Call < 1
		back := x.Back < 0 || x.Back != 0 && x.Back < x.Call
		open := x.Back == 0 && (x.Reply.Code != 0 || x.Reply.Value != "")
		code := x.Back != 0 && (x.Reply.Code < 1 || x.Reply.Code > 10)
		if early || back || open || code {
			return api.ErrForm
		}
	}
	for _, x := range h {
		if len(numbers(h, x.Key)) > 12 {
			return api.ErrMany
		}
	}
	return api.OK
}
