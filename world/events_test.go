package world_test

import (
	"testing"

	"synod/api"
	"synod/node"
	"synod/world"
)

// What is sent stands in the network, from this node to that, with what the node said.
func TestP15_3_Send(t *testing.T) {
	w := made(t, 3)
	for range 10 {
		all(t, w, tick(2, 0), pick(2, node.PTick))
	}
	all(t, w, pick(2, node.PWork), pick(2, node.PWrite))
	tells(t, w, pick(2, node.PSend), "no")
	tells(t, w, pick(2, node.PSync), "ok, sync 2 1")
	is(t, routes(w), "")
	tells(t, w, pick(2, node.PSend), "ok, send 2 1")
	is(t, routes(w), "1:21")
	tells(t, w, pick(2, node.PSend), "ok, send 2 3")
	is(t, routes(w), "1:21 2:23")
	tells(t, w, pick(2, node.PSend), "no")
	l := w.Mail()
	for i, to := range []int{1, 3} {
		want := api.Message{Kind: api.MVote, From: 2, To: to, Term: 1}
		m, ok := letter(l[i].Data)
		is(t, say(m, ok), say(want, true))
	}
}

// The network may refuse: that is told all the same.
func TestP15_3_SendRefused(t *testing.T) {
	w := made(t, 3)
	all(t, w, cut(3, 2))
	for range 10 {
		all(t, w, tick(2, 0), pick(2, node.PTick))
	}
	all(t, w, pick(2, node.PWork), pick(2, node.PWrite), pick(2, node.PSync))
	tells(t, w, pick(2, node.PSend), "ok, send 2 1")
	tells(t, w, pick(2, node.PSend), "ok, send 2 3")
	is(t, routes(w), "1:21")
	// A network that is full, too.
	w = candidate(t, 3)
	for len(w.Mail()) < api.MaxMail {
		all(t, w, double(0))
	}
	for range 10 {
		all(t, w, tick(2, 0), pick(2, node.PTick))
	}
	all(t, w, pick(2, node.PWork), pick(2, node.PWrite), pick(2, node.PSync))
	tells(t, w, pick(2, node.PSend), "ok, send 2 1")
	is(t, len(w.Mail()), api.MaxMail)
	all(t, w, drop(0))
	tells(t, w, pick(2, node.PSend), "ok, send 2 3")
	is(t, len(w.Mail()), api.MaxMail)
	is(t, w.Mail()[api.MaxMail-1].To, 3)
}

// A node that isn't up is sent mail like any other one.
func TestP15_3_SendToOneThatIsDown(t *testing.T) {
	w := made(t, 2)
	all(t, w, crash(2, 0))
	stands(t, w, 1)
	is(t, routes(w), "1:12")
	all(t, w, start(2, 0))
	tells(t, w, deliver(0), "ok")
}

// Each of a node's events is told with its kind, node and number.
func TestP15_3_Told(t *testing.T) {
	o := opts(2)
	o.Node.Every = 2
	w := with(t, o)
	all(t, w, calm(2, 11), put(1, 2, "a", "x"))
	has(t, w.Do(calm(2, 1)), "send 2 1", "sync 2 4", "apply 2 2", "back 1 2 done", "apply 1 2", "snap 2 2", "snap 1 2")
	all(t, w, arm(1, 1))
	has(t, w.Do(calm(2, 3)), "down 1")
	all(t, w, stop(2))
	has(t, w.Do(calm(2, 1)), "end 2 1", "end 2 2", "end 2 3", "end 2 4")
}

// A reply to a call that isn't out any more is nobody's, and isn't told.
func TestP15_3_NobodysReply(t *testing.T) {
	w := led(t, 1)
	all(t, w, put(1, 1, "a", "x"), give(1))
	tells(t, w, calm(1, 1), "ok, sync 1 3, sync 1 4, apply 1 2")
	is(t, w.Get(1, "a"), api.Reply{Code: api.RDone, Value: "x"})
	history(t, w, `1 1 put a "x" "" 2 open`)
	all(t, w, get(1, 1, "a"), give(1), get(1, 1, "a"))
	tells(t, w, calm(1, 1), "ok, back 1 1 done x")
	history(t, w, `1 1 put a "x" "" 2 open`, `1 0 get a "" "" 5 open`, `1 0 get a "" "" 7 8 done x`)
	tells(t, w, calm(1, 1), "ok")
}

// What was called again is answered once: by the reply to the last call.
func TestP15_3_OnlyTheLastCallIsOut(t *testing.T) {
	w := led(t, 1)
	all(t, w, put(1, 1, "a", "x"), again(1, 1), again(1, 1))
	tells(t, w, calm(1, 1), "ok, sync 1 3, sync 1 4, apply 1 2, apply 1 3, apply 1 4, back 1 1 done")
	history(t, w, `1 1 put a "x" "" 2 5 done`)
	// The client of another call that is out gets its own.
	all(t, w, get(1, 1, "a"), get(2, 1, "b"), again(1, 1))
	tells(t, w, calm(1, 1), "ok, back 2 1 none, back 1 1 done x")
}

// One act may tell replies to several clients, in the node's order.
func TestP15_3_SeveralReplies(t *testing.T) {
	o := opts(1)
	o.Clients = 5
	w := with(t, o)
	all(t, w, calm(1, 12), put(3, 1, "a", "x"), put(1, 1, "b", "y"), remove(5, 1, "c"), swap(2, 1, "a", "z", "w"))
	for range 4 {
		all(t, w, pick(1, node.PCall))
	}
	tells(t, w, pick(1, node.PCall), "no")
	all(t, w, pick(1, node.PWork), pick(1, node.PWrite), pick(1, node.PSync), pick(1, node.PNotice), pick(1, node.PWork))
	tells(t, w, pick(1, node.PApply), "ok, apply 1 2, back 3 1 done, apply 1 3, back 1 1 done, apply 1 4, back 5 1 none, apply 1 5, back 2 1 other x")
	is(t, w.Now(), 16)
	history(t, w,
		`3 1 put a "x" "" 2 16 done`,
		`1 1 put b "y" "" 3 16 done`,
		`5 1 delete c "" "" 4 16 none`,
		`2 1 swap a "w" "z" 5 16 other x`)
	for c := 1; c <= 5; c++ {
		tells(t, w, give(c), err(api.ErrThere))
	}
}

// Two nodes that are cut off from each other lead; what each tells is its own.
func TestP15_3_WhoseEvents(t *testing.T) {
	w := led(t, 3)
	all(t, w, cut(1, 2), cut(1, 3), calm(2, 100))
	is(t, w.Leader(), 2)
	all(t, w, put(1, 1, "a", "x"), put(2, 2, "a", "y"))
	x := w.Do(calm(2, 1))
	has(t, x, "back 2 2 done")
	for _, e := range x.Events {
		if e.Kind == world.EBack && e.Client == 1 {
			t.Errorf("%v", e)
		}
	}
	all(t, w, link(1, 2), link(1, 3))
	has(t, w.Do(calm(2, 2)), "back 1 1 lost")
}
