package world_test

import (
	"fmt"
	"strings"
	"testing"

	"synod/api"
	"synod/codec"
	"synod/frame"
	"synod/node"
	"synod/world"
)

// letter is the message that a mail's data are.
func letter(b []byte) (api.Message, bool) {
	text, e := frame.One(b)
	if e != api.OK {
		return api.Message{}, false
	}
	m, e := (codec.Messages{}).Get(text)
	return m, e == api.OK
}

// lastCommand is the command of the last entry of a node's log.
func lastCommand(t *testing.T, w *world.World, id int) api.Command {
	t.Helper()
	_, _, l := w.Log(id)
	c, e := (codec.Commands{}).Get(l[len(l)-1].Data)
	if e != api.OK {
		t.Fatalf("%v is no command", l[len(l)-1])
	}
	return c
}

// The command has the client, its Seq, and all that the act says; a Seq is a client's own, and a read takes none.
func TestP15_4_Commands(t *testing.T) {
	w := led(t, 1)
	for i, x := range []struct {
		a    world.Act
		want api.Command
	}{
		{put(1, 1, "a", "x"), api.Command{Op: api.OpPut, Client: 1, Seq: 1, Key: "a", Value: "x"}},
		{swap(1, 1, "a", "x", "y"), api.Command{Op: api.OpSwap, Client: 1, Seq: 2, Key: "a", Value: "y", Old: "x"}},
		{put(2, 1, "b", ""), api.Command{Op: api.OpPut, Client: 2, Seq: 1, Key: "b"}},
		{get(1, 1, "a"), api.Command{}},
		{remove(1, 1, "a"), api.Command{Op: api.OpDelete, Client: 1, Seq: 3, Key: "a"}},
		{get(2, 1, "a"), api.Command{}},
		{remove(2, 1, "a"), api.Command{Op: api.OpDelete, Client: 2, Seq: 2, Key: "a"}},
	} {
		all(t, w, x.a, calm(1, 1))
		ops := w.History()
		is(t, say(len(ops), ops[i].Seq, ops[i].Back), say(i+1, x.want.Seq, ops[i].Call+1))
		if x.want.Op != 0 {
			is(t, say(lastCommand(t, w, 1)), say(x.want))
		}
	}
	history(t, w,
		`1 1 put a "x" "" 2 3 done`,
		`1 2 swap a "y" "x" 4 5 done`,
		`2 1 put b "" "" 6 7 done`,
		`1 0 get a "" "" 8 9 done y`,
		`1 3 delete a "" "" 10 11 done`,
		`2 0 get a "" "" 12 13 none`,
		`2 2 delete a "" "" 14 15 none`)
}

// A read is called with Op and Key alone; the history has all that the act said.
func TestP15_4_ReadOfKeyAlone(t *testing.T) {
	w := led(t, 1)
	a := get(1, 1, "a")
	a.Value, a.Old = "v", "o"
	tells(t, w, a, "ok")
	tells(t, w, calm(1, 1), "ok, back 1 1 none")
	history(t, w, `1 0 get a "v" "o" 2 3 none`)
}

// The same operation is called again, with its Seq: it is done once.
func TestP15_4_AgainIsTheSame(t *testing.T) {
	w := led(t, 3)
	all(t, w, put(2, 1, "a", "x"), again(2, 1), calm(1, 2))
	_, _, l := w.Log(1)
	is(t, len(l), 3)
	is(t, string(l[1].Data), string(l[2].Data))
	is(t, say(lastCommand(t, w, 1)), say(api.Command{Op: api.OpPut, Client: 2, Seq: 1, Key: "a", Value: "x"}))
	history(t, w, `2 1 put a "x" "" 2 4 done`)
	tells(t, w, again(2, 1), err(api.ErrThere))
	all(t, w, put(2, 1, "a", "y"))
	tells(t, w, put(2, 1, "a", "z"), err(api.ErrThere))
	all(t, w, again(2, 1), calm(1, 1))
	is(t, lastCommand(t, w, 1).Seq, 2)
}

// A client that gives up goes on with its next Seq; the operation stays open.
func TestP15_4_GivenUp(t *testing.T) {
	w := led(t, 1)
	all(t, w, put(1, 1, "a", "x"), give(1))
	tells(t, w, give(1), err(api.ErrThere))
	tells(t, w, again(1, 1), err(api.ErrThere))
	all(t, w, put(1, 1, "a", "y"))
	tells(t, w, calm(1, 1), "ok, sync 1 3, sync 1 4, apply 1 2, apply 1 3, back 1 1 done")
	history(t, w, `1 1 put a "x" "" 2 open`, `1 2 put a "y" "" 6 7 done`)
}

// What was refused with an error takes no Seq, and leaves the history as it is.
func TestP15_4_ErrorsTakeNoSeq(t *testing.T) {
	w := led(t, 1)
	for _, a := range []world.Act{put(3, 1, "a", "x"), put(1, 2, "a", "x"), put(0, 0, "a", "x")} {
		unchanged(t, w, a, err(api.ErrNone))
	}
	all(t, w, get(1, 1, "a"))
	unchanged(t, w, put(1, 1, "a", "x"), err(api.ErrThere))
	all(t, w, calm(1, 1), put(1, 1, "a", "x"), calm(1, 1))
	is(t, lastCommand(t, w, 1).Seq, 1)
	is(t, len(w.History()), 2)
}

// What may not be is answered at once: it has a Seq, and the client is at none.
func TestP15_4_Limit(t *testing.T) {
	long := func(n int) string { return strings.Repeat("k", n) }
	w := led(t, 1)
	wrong := []world.Act{
		put(1, 1, "", "x"), put(1, 1, long(api.MaxKey+1), "x"), put(1, 1, "a", long(api.MaxValue+1)), get(1, 1, ""), get(1, 1, long(api.MaxKey+1)),
		swap(1, 1, "a", long(api.MaxValue+1), "x"), remove(1, 1, ""),
		{Kind: world.WCall, Client: 1, Node: 1, Op: api.OpPut, Key: "a", Value: "x", Old: "y"},
		{Kind: world.WCall, Client: 1, Node: 1, Op: api.OpDelete, Key: "a", Value: "x"},
	}
	for _, op := range append(far(), 0, 5, 6) {
		wrong = append(wrong, world.Act{Kind: world.WCall, Client: 1, Node: 1, Op: op, Key: "a"})
	}
	seq := 0
	for i, a := range wrong {
		tells(t, w, a, "ok, back 1 1 limit")
		if a.Op != api.OpGet {
			seq++
		}
		want := api.Op{Client: 1, Seq: seq, Kind: a.Op, Key: a.Key, Value: a.Value, Old: a.Old, Call: w.Now(), Back: w.Now(), Reply: api.Reply{Code: api.RLimit}}
		if a.Op == api.OpGet {
			want.Seq = 0
		}
		is(t, say(len(w.History()), w.History()[i]), say(i+1, want))
		tells(t, w, give(1), err(api.ErrThere))
	}
	for _, a := range []world.Act{put(1, 1, long(api.MaxKey), long(api.MaxValue)), get(1, 1, long(api.MaxKey)), swap(1, 1, "a", long(api.MaxValue), "x")} {
		tells(t, w, a, "ok")
		has(t, w.Do(calm(1, 1)))
		tells(t, w, give(1), err(api.ErrThere))
	}
	is(t, lastCommand(t, w, 1).Seq, seq+2)
}

// A node that isn't up, or is stopped: RDown; the client is at its operation still, and no call of it is out.
func TestP15_4_Down(t *testing.T) {
	for _, w := range downs(t) {
		tells(t, w, put(1, 3, "a", "x"), "ok, back 1 3 down")
		tells(t, w, put(1, 3, "a", "x"), err(api.ErrThere))
		tells(t, w, again(1, 3), "ok, back 1 3 down")
		tells(t, w, again(1, 1), "ok")
		has(t, w.Do(calm(1, 2)), "back 1 1 done")
		// Also of what may not be: nobody looked at it.
		tells(t, w, put(1, 3, "", "x"), "ok, back 1 3 down")
		tells(t, w, again(1, 1), "ok, back 1 1 limit")
	}
	w := led(t, 1)
	all(t, w, stop(1))
	tells(t, w, get(1, 1, "a"), "ok, back 1 1 down")
	tells(t, w, give(1), "ok")
	history(t, w, `1 0 get a "" "" 3 open`)
}

// A call that is refused takes the place of one that was out.
func TestP15_4_RefusedCallIsTheLast(t *testing.T) {
	w := led(t, 2)
	all(t, w, put(1, 1, "a", "x"), crash(2, 0))
	tells(t, w, again(1, 2), "ok, back 1 2 down")
	all(t, w, start(2, 0))
	x := w.Do(calm(1, 3))
	has(t, x, "apply 1 2", "apply 2 2")
	for _, e := range x.Events {
		if e.Kind == world.EBack {
			t.Errorf("%s: no call of it is out", shown(e))
		}
	}
	history(t, w, `1 1 put a "x" "" 2 open`)
	all(t, w, again(1, 1))
	has(t, w.Do(calm(1, 2)), "back 1 1 done")
	is(t, w.History()[0].Back, w.Now())
}

// A queue that is full: RBusy, from the call at once, or from the core.
func TestP15_4_Busy(t *testing.T) {
	o := opts(1)
	o.Clients, o.Node.Calls, o.Node.Core.Pending = 4, 2, 1
	w := with(t, o)
	all(t, w, calm(1, 12))
	tells(t, w, put(1, 1, "a", "x"), "ok")
	tells(t, w, put(2, 1, "a", "y"), "ok")
	tells(t, w, put(3, 1, "a", "z"), "ok, back 3 1 busy")
	tells(t, w, again(3, 1), "ok, back 3 1 busy")
	tells(t, w, pick(1, node.PCall), "ok")
	tells(t, w, pick(1, node.PCall), "ok, back 2 1 busy")
	history(t, w, `1 1 put a "x" "" 2 open`, `2 1 put a "y" "" 3 open`, `3 1 put a "z" "" 4 open`)
	tells(t, w, calm(1, 1), "ok, sync 1 3, sync 1 4, apply 1 2, back 1 1 done")
	tells(t, w, again(3, 1), "ok")
	tells(t, w, calm(1, 1), "ok, sync 1 5, sync 1 6, apply 1 3, back 3 1 done")
}

// One that doesn't lead: RLead, when it takes the call; it may be called elsewhere.
func TestP15_4_Lead(t *testing.T) {
	w := led(t, 3)
	all(t, w, put(1, 2, "a", "x"), get(2, 3, "a"))
	tells(t, w, pick(2, node.PCall), "ok, back 1 2 lead")
	tells(t, w, pick(3, node.PCall), "ok, back 2 3 lead")
	history(t, w, `1 1 put a "x" "" 2 open`, `2 0 get a "" "" 3 open`)
	all(t, w, again(1, 1), again(2, 1))
	has(t, w.Do(calm(1, 2)), "back 1 1 done")
	is(t, say(w.History()[0].Reply.Code, w.History()[1].Back > 0), say(api.RDone, true))
}

// A call at an index where another entry came to stand: RLost, and the client is at its operation still.
func TestP15_4_Lost(t *testing.T) {
	w := led(t, 3)
	all(t, w, cut(1, 2), cut(1, 3), put(1, 1, "a", "x"), calm(2, 95), put(2, 2, "a", "y"), calm(2, 1), link(1, 2), link(1, 3))
	has(t, w.Do(calm(2, 2)), "back 1 1 lost")
	is(t, w.History()[0].Back, 0)
	tells(t, w, put(1, 2, "b", "x"), err(api.ErrThere))
	all(t, w, again(1, 2))
	has(t, w.Do(calm(2, 1)), "back 1 2 done")
	is(t, say(w.Get(2, "a"), w.History()[0].Reply), "{1 x} {1 }")
}

// Too many keys: RFull, which answers the operation.
func TestP15_4_Full(t *testing.T) {
	w := led(t, 1)
	for i := range api.MaxPairs {
		all(t, w, put(1, 1, fmt.Sprint("k", i), ""), calm(1, 1))
	}
	all(t, w, put(2, 1, "more", ""))
	has(t, w.Do(calm(1, 1)), "back 2 1 full")
	last := w.History()[api.MaxPairs]
	is(t, say(last.Back, last.Reply.Code), say(w.Now(), api.RFull))
	tells(t, w, give(2), err(api.ErrThere))
}

// The clients do not disturb one another.
func TestP15_4_SixteenClients(t *testing.T) {
	o := opts(1)
	o.Clients = api.MaxClients
	w := with(t, o)
	all(t, w, calm(1, 12))
	for c := api.MaxClients; c >= 1; c -= 8 {
		for i := range 8 {
			all(t, w, put(c-i, 1, fmt.Sprint("k", c-i), fmt.Sprint("v", c-i)))
		}
		x := w.Do(calm(1, 1))
		for i := range 8 {
			has(t, x, fmt.Sprintf("back %d 1 done", c-i))
		}
	}
	for c := 1; c <= api.MaxClients; c++ {
		is(t, w.Get(1, fmt.Sprint("k", c)).Value, fmt.Sprint("v", c))
		tells(t, w, give(c), err(api.ErrThere))
	}
	for _, x := range w.History() {
		is(t, say(x.Seq, x.Key, x.Back > x.Call), say(1, fmt.Sprint("k", x.Client), true))
	}
}
