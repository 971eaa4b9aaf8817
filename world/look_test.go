package world_test

import (
	"testing"

	"synod/api"
	"synod/disk"
	"synod/net"
	"synod/node"
	"synod/world"
)

// Where there is no such node there is nothing.
func TestP15_6_NoSuchNode(t *testing.T) {
	for nodes := 1; nodes <= 3; nodes++ {
		w := led(t, nodes)
		for _, id := range append(far(), 0, nodes+1, nodes+2, 8) {
			v, up := w.View(id)
			base, term, entries := w.Log(id)
			is(t, say(v, up, w.Get(id, "a"), base, term, entries, w.Files(id)), say(node.View{}, false, api.Reply{}, 0, 0, "[] []"))
		}
	}
}

// twin is a node that is told just what a world's node is told.
type twin struct {
	d *disk.Disk
	n *node.Node
}

func (x twin) told(up bool) string {
	base, term, entries := x.n.Log()
	return say(x.n.View(), up, x.n.Get("a"), x.n.Get("b"), x.n.Get("c"), base, term, entries, x.d.Files())
}

// What is told of a node is what the node tells: step by step, through writes, snapshots and a crash.
func TestP15_6_TheNodes(t *testing.T) {
	o := opts(1)
	o.Node.Every, o.Node.Keep = 3, 1
	w := with(t, o)
	x := twin{d: disk.New()}
	x.n, _ = node.Open(ofNode(o, 1), x.d, 0)
	do := func(a world.Act, b node.Act) {
		t.Helper()
		is(t, w.Do(a).Did, node.Do(x.n, b).Did)
		is(t, toldOf(w, 1), x.told(true))
	}
	for i := range 40 {
		do(tick(1, 0), node.Act{Kind: node.ATick})
		if i > 12 && i%3 == 0 {
			key, c := string("abc"[i/3%3]), i%2+1
			w.Do(give(c))
			seq := 1
			for _, y := range w.History() {
				if y.Client == c {
					seq++
				}
			}
			do(put(c, 1, key, "v"), node.Act{Kind: node.ACall, Call: node.Call{ID: i, Command: api.Command{Op: api.OpPut, Client: c, Seq: seq, Key: key, Value: "v"}}})
		}
		for kind := node.PNotice; kind <= node.PSend; kind++ {
			do(pick(1, kind), node.Act{Kind: node.APick, N: kind})
		}
	}
	if v := view(t, w, 1); v.Snap < 3 || v.Core.Role != api.Leader {
		t.Errorf("%v", v)
	}
	all(t, w, crash(1, 3))
	x.d.Crash(3)
	is(t, toldOf(w, 1), x.told(false))
	all(t, w, start(1, 4))
	x.n, _ = node.Open(ofNode(o, 1), x.d, 4)
	is(t, toldOf(w, 1), x.told(true))
}

// One that isn't up is as it was, till it is started again; its files are the disk's.
func TestP15_6_AsItWas(t *testing.T) {
	w := led(t, 3)
	all(t, w, put(1, 1, "a", "x"), calm(1, 3), put(2, 1, "b", "y"), pick(1, node.PCall), pick(1, node.PWork), pick(1, node.PWrite))
	was := view(t, w, 1)
	base, term, entries := w.Log(1)
	if was.Core.Last != 3 || was.Held != 1 || was.Core.Role != api.Leader {
		t.Fatalf("%v", was)
	}
	all(t, w, crash(1, 0), calm(2, 95))
	v, up := w.View(1)
	b, tm, l := w.Log(1)
	is(t, say(v, up, b, tm, l, w.Get(1, "a"), w.Get(1, "b")), say(was, false, base, term, entries, "{1 x} {2 }"))
	is(t, w.Leader(), 2)
	for _, f := range w.Files(1) {
		is(t, f.Synced, len(f.Data))
	}
	all(t, w, start(1, 0))
	v, up = w.View(1)
	is(t, say(v.Core.Role, v.Core.Last, v.Stored, up, w.Get(1, "a")), say(api.Follower, 2, 0, true, "{2 }"))
}

// A node that failed, or ended, is as it was, too.
func TestP15_6_FailedAndEnded(t *testing.T) {
	for how, w := range downs(t) {
		v, up := w.View(3)
		is(t, say(how, up, v.Up, v.Stopped, v.Core.Last > 0), say(how, false, how != "failed", how == "ended", true))
		was := toldOf(w, 3)
		all(t, w, put(1, 1, "c", "z"), calm(1, 5))
		is(t, toldOf(w, 3), was)
		is(t, w.Get(1, "c"), "{1 z}")
	}
}

func TestP15_6_Leader(t *testing.T) {
	w := led(t, 3)
	// The old leader, cut off, leads still: the greater term counts, whatever the ids.
	all(t, w, cut(1, 2), cut(1, 3), calm(3, 95))
	is(t, say(view(t, w, 1).Core.Role, view(t, w, 3).Core.Role, w.Leader()), say(api.Leader, api.Leader, 3))
	all(t, w, crash(3, 0))
	is(t, w.Leader(), 1)
	all(t, w, stop(1))
	is(t, w.Leader(), 1) // it is stopped, but up
	all(t, w, calm(2, 1))
	is(t, say(view(t, w, 1).Core.Role, w.Leader()), say(api.Leader, 0)) // its tasks have ended
	all(t, w, start(1, 0), start(3, 0), link(1, 2), link(1, 3), calm(2, 95))
	is(t, w.Leader(), 2)
	w = led(t, 3)
	all(t, w, cut(3, 2), cut(3, 1), calm(3, 120))
	is(t, say(w.Leader(), view(t, w, 3).Core.Role), say(1, api.Candidate)) // a greater term, but it doesn't lead
	all(t, w, arm(1, 1), put(1, 1, "a", "x"), pick(1, node.PCall), pick(1, node.PWork))
	tells(t, w, pick(1, node.PWrite), "ok, down 1")
	is(t, say(view(t, w, 1).Core.Role, w.Leader()), say(api.Leader, 0))
}

// The lower id with the greater term.
func TestP15_6_LeaderOfTwo(t *testing.T) {
	w := made(t, 3)
	all(t, w, calm(3, 12), cut(3, 1), cut(3, 2), calm(1, 95))
	is(t, say(view(t, w, 3).Core.Role, view(t, w, 1).Core.Role, w.Leader()), say(api.Leader, api.Leader, 1))
}

func TestP15_6_Mail(t *testing.T) {
	w := candidate(t, 3)
	all(t, w, double(1), spoil(1, 3))
	n := net.New(3)
	for _, m := range w.Mail() {
		is(t, n.Send(m.From, m.To, m.Data), true)
	}
	l := n.List()
	l[1].Spoilt = true
	is(t, say(w.Mail()), say(l))
	is(t, say(l[0].To, l[1].To, l[2].To), "2 3 3")
}

// The operations stand in the order of their calls, open or not.
func TestP15_6_History(t *testing.T) {
	w := led(t, 3)
	history(t, w)
	all(t, w, put(2, 1, "a", "x"), get(1, 2, "a"))
	history(t, w, `2 1 put a "x" "" 2 open`, `1 0 get a "" "" 3 open`)
	all(t, w, calm(1, 2)) // 1 is told RLead
	history(t, w, `2 1 put a "x" "" 2 4 done`, `1 0 get a "" "" 3 open`)
	all(t, w, swap(2, 1, "a", "y", "z"), again(1, 1), calm(1, 2))
	history(t, w, `2 1 put a "x" "" 2 4 done`, `1 0 get a "" "" 3 7 done x`, `2 2 swap a "z" "y" 5 7 other x`)
	all(t, w, remove(1, 1, "b"), give(1), get(1, 1, ""), calm(1, 2))
	history(t, w, `2 1 put a "x" "" 2 4 done`, `1 0 get a "" "" 3 7 done x`, `2 2 swap a "z" "y" 5 7 other x`,
		`1 1 delete b "" "" 8 open`, `1 0 get  "" "" 10 10 limit`)
}

// Looking changes nothing.
func TestP15_6_LookingChangesNothing(t *testing.T) {
	acts := someActs()
	want, ops, _ := world.Run(opts(3), acts)
	w := made(t, 3)
	for i, a := range acts {
		told(w, 4)
		is(t, shownAll(w.Do(a)), shownAll(want[i]))
	}
	is(t, say(w.History()), say(ops))
}
