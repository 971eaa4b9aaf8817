package world_test

import (
	"math"
	"math/rand/v2"
	"strings"
	"testing"

	"synod/api"
	"synod/disk"
	"synod/node"
	"synod/world"
)

// unchanged does an act that has to change nothing but the time, and holds what it tells against its text.
func unchanged(t *testing.T, w *world.World, a world.Act, want string) {
	t.Helper()
	_, was, _ := strings.Cut(told(w, api.MaxNodes), " ")
	tells(t, w, a, want)
	if _, is, _ := strings.Cut(told(w, api.MaxNodes), " "); is != was {
		t.Errorf("%v changes\n%s\nto\n%s", a, was, is)
	}
}

// kinds are all kinds of acts.
func kinds() []int { return []int{1, 2, 3, 4, 5, 6, 7, 8, 9, 10, 11, 12, 13, 14, 15, 16} }

// full is an act of a kind that names what there is.
func full(kind int) world.Act {
	return world.Act{Kind: kind, Node: 1, Client: 1, N: 2, M: 1, Op: api.OpPut, Key: "a", Value: "x"}
}

func TestP15_2_NoSuchKind(t *testing.T) {
	w := led(t, 3)
	for _, kind := range append(far(), 0, 17, 18, 32, 100) {
		unchanged(t, w, full(kind), err(api.ErrKind))
		unchanged(t, w, world.Act{Kind: kind, Node: -1, Client: -1, N: -1}, err(api.ErrKind))
	}
	for _, kind := range kinds() {
		if x := w.Do(full(kind)); x.Err == api.ErrKind {
			t.Errorf("%d is no kind", kind)
		}
	}
}

// A node or a client that isn't there is told ahead of all else.
func TestP15_2_NobodyThere(t *testing.T) {
	w := led(t, 3)
	all(t, w, put(1, 1, "b", "y"), crash(3, 0))
	nobody := append(far(), 0, 4, 5, 7, 8)
	for _, id := range nobody {
		for _, kind := range []int{world.WTick, world.WPick, world.WLink, world.WCrash, world.WStart, world.WStop, world.WArm, world.WCall, world.WAgain, world.WCalm} {
			for client := 0; client <= 3; client++ {
				a := full(kind)
				a.Node, a.Client = id, client
				unchanged(t, w, a, err(api.ErrNone))
				a.N = 0
				unchanged(t, w, a, err(api.ErrNone))
			}
		}
		unchanged(t, w, world.Act{Kind: world.WLink, Node: 1, N: id}, err(api.ErrNone))
		unchanged(t, w, world.Act{Kind: world.WLink, Node: id, N: 1}, err(api.ErrNone))
		unchanged(t, w, world.Act{Kind: world.WLink, Node: id, N: id}, err(api.ErrNone))
	}
	for _, client := range append(far(), 0, 3, 4, 16, 17) {
		for _, kind := range []int{world.WCall, world.WAgain, world.WGive} {
			for id := 0; id <= 4; id++ { // 3 isn't up
				a := full(kind)
				a.Node, a.Client = id, client
				unchanged(t, w, a, err(api.ErrNone))
			}
		}
	}
}

// named lets an act keep only what its line names.
func named(a world.Act) world.Act {
	b := world.Act{Kind: a.Kind, Node: a.Node, N: a.N}
	switch a.Kind {
	case world.WDeliver, world.WDrop, world.WCopy:
		b.Node = 0
	case world.WSpoil, world.WMove:
		b.Node, b.M = 0, a.M
	case world.WLink:
		b.M = a.M
	case world.WStop:
		b.N = 0
	case world.WCall:
		b = a
		b.N, b.M = 0, 0
	case world.WAgain:
		b = world.Act{Kind: a.Kind, Node: a.Node, Client: a.Client}
	case world.WGive:
		b = world.Act{Kind: a.Kind, Client: a.Client}
	}
	return b
}

// noisy is an act with something in each field that its line doesn't name.
func noisy(r *rand.Rand, a world.Act) world.Act {
	number := func() int { return append(far(), 1, 2, 3, 4)[r.IntN(len(far())+4)] }
	b := world.Act{Kind: a.Kind, Node: number(), Client: number(), N: number(), M: number(), Op: number(), Key: "k", Value: "v", Old: "o"}
	c := named(b)
	for _, x := range []struct{ noise, named, act *int }{
		{&b.Node, &c.Node, &a.Node}, {&b.Client, &c.Client, &a.Client}, {&b.N, &c.N, &a.N}, {&b.M, &c.M, &a.M}, {&b.Op, &c.Op, &a.Op},
	} {
		if *x.named != 0 {
			*x.noise = *x.act
		}
	}
	if c.Key != "" {
		b.Key, b.Value, b.Old = a.Key, a.Value, a.Old
	}
	return b
}

// Of an act only what its line names is looked at.
func TestP15_2_OnlyWhatItsLineNames(t *testing.T) {
	r := rand.New(rand.NewPCG(15, 2))
	differ := 0
	for seed := range uint64(30) {
		p := newPlay(t, seed)
		other := with(t, p.o)
		for range 150 {
			a := named(p.next())
			b := noisy(r, a)
			if named(b) != a {
				t.Fatalf("%v is noisy as %v", a, b)
			}
			if a != b {
				differ++
			}
			is(t, shownAll(other.Do(b)), shownAll(p.do(a)))
		}
		is(t, told(other, p.o.Nodes), told(p.w, p.o.Nodes))
	}
	if differ < 3000 {
		t.Errorf("%d acts alone differ", differ)
	}
}

// has holds that an act did something, and told all of this.
func has(t *testing.T, x world.Told, parts ...string) {
	t.Helper()
	have := shownAll(x) + ", "
	if !x.Did {
		t.Errorf("have %s", have)
	}
	for _, s := range parts {
		if !strings.Contains(have, ", "+s+", ") {
			t.Errorf("have %s\nwithout %s", have, s)
		}
	}
}

// downs are worlds of three nodes that 1 leads, in which 3 isn't up, for one cause each.
func downs(t *testing.T) map[string]*world.World {
	t.Helper()
	l := map[string]*world.World{"crashed": led(t, 3), "failed": led(t, 3), "ended": led(t, 3)}
	all(t, l["crashed"], crash(3, 0))
	all(t, l["failed"], arm(3, 1), put(2, 1, "b", "y"))
	has(t, l["failed"].Do(calm(1, 1)), "down 3", "back 2 1 done")
	all(t, l["ended"], stop(3))
	has(t, l["ended"].Do(calm(1, 1)), "end 3 1, end 3 2, end 3 3, end 3 4")
	for how, w := range l {
		if _, up := w.View(3); up {
			t.Errorf("%s: it is up", how)
		}
	}
	return l
}

func TestP15_2_NotUp(t *testing.T) {
	for how, w := range downs(t) {
		for _, n := range append(far(), 0, 1, 2, 3, 4, 5, 6, 7, 8, 9, 10) {
			unchanged(t, w, tick(3, n), err(api.ErrDown))
			unchanged(t, w, pick(3, n), err(api.ErrDown))
			unchanged(t, w, world.Act{Kind: world.WStop, Node: 3, N: n}, err(api.ErrDown))
		}
		if v := view(t, w, 3); v.Up != (how != "failed") || v.Stopped != (how == "ended") {
			t.Errorf("%s: %v", how, v)
		}
		all(t, w, tick(1, 0), tick(2, 0), crash(3, 0), start(3, 0), tick(3, 0), pick(3, node.PTick), stop(3))
		tells(t, w, tick(3, 0), "no")
	}
}

func TestP15_2_Tick(t *testing.T) {
	for _, x := range [][2]int{{0, 10}, {1, 11}, {79, 89}, {80, 90}, {81, 90}, {-1, 10}, {math.MinInt, 10}, {math.MaxInt, 90}} {
		w := made(t, 3)
		tells(t, w, tick(2, x[0]), "ok")
		is(t, say(view(t, w, 2).Ticks, view(t, w, 1).Ticks, view(t, w, 3).Ticks), "1 0 0")
		tells(t, w, pick(2, node.PTick), "ok")
		is(t, say(view(t, w, 2).Core.Timeout, view(t, w, 2).Core.Elapsed), say(x[1], 1))
	}
	w := made(t, 1)
	for range 8 {
		tells(t, w, tick(1, 0), "ok")
	}
	unchanged(t, w, tick(1, 0), "no")
	all(t, w, pick(1, node.PTick))
	tells(t, w, tick(1, 0), "ok")
}

// The picks of chapter 12's example.
func TestP15_2_Pick(t *testing.T) {
	w := made(t, 1)
	for range 10 {
		all(t, w, tick(1, 0), pick(1, node.PTick))
	}
	unchanged(t, w, pick(1, node.PNotice), "no")
	tells(t, w, pick(1, node.PWork), "ok")
	unchanged(t, w, pick(1, node.PWork), "no")
	tells(t, w, put(1, 1, "a", "x"), "ok")
	tells(t, w, pick(1, node.PCall), "ok")
	tells(t, w, pick(1, node.PWrite), "ok")
	tells(t, w, pick(1, node.PSync), "ok, sync 1 1")
	tells(t, w, pick(1, node.PNotice), "ok")
	tells(t, w, pick(1, node.PWork), "ok")
	tells(t, w, pick(1, node.PApply), "ok, apply 1 1")
	all(t, w, pick(1, node.PWrite))
	tells(t, w, pick(1, node.PSync), "ok, sync 1 2")
	all(t, w, pick(1, node.PNotice), pick(1, node.PNotice), pick(1, node.PWork))
	tells(t, w, pick(1, node.PApply), "ok, apply 1 2, back 1 1 done")
	tells(t, w, get(2, 1, "a"), "ok")
	all(t, w, pick(1, node.PCall), pick(1, node.PWork))
	tells(t, w, pick(1, node.PApply), "ok, back 2 1 done x")
	for _, kind := range append(far(), 0, 10, 11) {
		unchanged(t, w, pick(1, kind), "no")
	}
}

// candidate is a world of so many nodes of which 1 stands: a mail to each of the others is on its way.
func candidate(t *testing.T, nodes int) *world.World {
	t.Helper()
	w := made(t, nodes)
	stands(t, w, 1)
	is(t, len(w.Mail()), nodes-1)
	return w
}

func TestP15_2_Deliver(t *testing.T) {
	w := candidate(t, 4)
	data := w.Mail()[1].Data
	tells(t, w, deliver(1), "ok")
	is(t, routes(w), "1:12 3:14")
	is(t, say(view(t, w, 2).Inbox, view(t, w, 3).Inbox, view(t, w, 4).Inbox), "0 1 0")
	// What was delivered is the mail: a node of the same options that is told it stands as this one.
	n, _ := node.Open(ofNode(opts(4), 3), disk.New(), 0)
	n.Deliver(data)
	n.Pick(node.PInbox)
	all(t, w, pick(3, node.PInbox))
	is(t, say(view(t, w, 3)), say(n.View()))
	is(t, view(t, w, 3).Core.Vote, 1)
	for _, i := range append(far(), 2, 3) {
		unchanged(t, w, deliver(i), err(api.ErrNone))
	}
	tells(t, w, deliver(1), "ok")
	tells(t, w, deliver(0), "ok")
	is(t, routes(w), "")
	unchanged(t, w, deliver(0), err(api.ErrNone))
}

// A mail whose node isn't up, or has no room, is taken all the same.
func TestP15_2_DeliverLost(t *testing.T) {
	for how, w := range downs(t) {
		was := toldOf(w, 3)
		all(t, w, put(1, 1, "c", "z"), pick(1, node.PCall), pick(1, node.PWork), pick(1, node.PSend), pick(1, node.PSend))
		at := 0
		if w.Mail()[1].To == 3 {
			at = 1
		}
		is(t, say(how, len(w.Mail()), w.Mail()[at].To), say(how, 2, 3))
		tells(t, w, deliver(at), "no")
		is(t, say(len(w.Mail()), w.Mail()[0].To), "1 2")
		is(t, toldOf(w, 3), was)
		tells(t, w, deliver(0), "ok")
	}
	w := candidate(t, 2)
	for range 9 {
		all(t, w, double(0))
	}
	for range 8 {
		tells(t, w, deliver(0), "ok")
	}
	tells(t, w, deliver(0), "no")
	is(t, say(view(t, w, 2).Inbox, len(w.Mail())), "8 1")
	all(t, w, stop(2))
	tells(t, w, deliver(0), "no")
	is(t, say(view(t, w, 2).Inbox, len(w.Mail())), "8 0")
}

func TestP15_2_Mail(t *testing.T) {
	w := candidate(t, 4)
	is(t, routes(w), "1:12 2:13 3:14")
	for _, i := range append(far(), 3, 4) {
		unchanged(t, w, drop(i), "no")
		unchanged(t, w, double(i), "no")
		unchanged(t, w, spoil(i, 0), "no")
		unchanged(t, w, move(i, 0), "no")
		unchanged(t, w, move(0, i), "no")
	}
	bits := 8 * len(w.Mail()[1].Data)
	for _, bit := range []int{-1, bits, bits + 1, math.MinInt, math.MaxInt} {
		unchanged(t, w, spoil(1, bit), "no")
	}
	tells(t, w, double(0), "ok")
	is(t, routes(w), "1:12 2:13 3:14 4:12")
	tells(t, w, move(0, 2), "ok")
	is(t, routes(w), "2:13 3:14 1:12 4:12")
	tells(t, w, move(3, 1), "ok")
	is(t, routes(w), "2:13 4:12 3:14 1:12")
	was := w.Mail()[1].Data
	tells(t, w, spoil(1, 10), "ok")
	was[1] ^= 4
	is(t, say(routes(w), w.Mail()[1].Data), say("2:13 4:12! 3:14 1:12", was))
	unchanged(t, w, spoil(1, 10), "no")
	tells(t, w, drop(2), "ok")
	is(t, routes(w), "2:13 4:12! 1:12")
	tells(t, w, deliver(1), "ok")
	tells(t, w, pick(2, node.PInbox), "ok")
	is(t, view(t, w, 2).Core.Term, 0) // it was spoilt
}

// The network is full at MaxMail.
func TestP15_2_CopyWhereFull(t *testing.T) {
	w := candidate(t, 2)
	for range api.MaxMail - 1 {
		all(t, w, double(0))
	}
	tells(t, w, double(0), "no")
	is(t, len(w.Mail()), api.MaxMail)
	all(t, w, drop(7), double(0))
}

func TestP15_2_Link(t *testing.T) {
	for _, up := range []int{0, 1, 2, -1, math.MinInt, math.MaxInt} {
		for _, pair := range [][2]int{{1, 2}, {2, 1}} {
			w := made(t, 3)
			all(t, w, cut(2, 1))
			tells(t, w, world.Act{Kind: world.WLink, Node: pair[0], N: pair[1], M: up}, "ok")
			stands(t, w, 1)
			stands(t, w, 2)
			want := "1:12 2:13 3:21 4:23"
			if up == 0 {
				want = "1:13 2:23"
			}
			is(t, routes(w), want)
		}
	}
	w := made(t, 3)
	for id := 1; id <= 3; id++ {
		unchanged(t, w, link(id, id), "no")
		unchanged(t, w, cut(id, id), "no")
	}
	// Mail that is on its way stays, and comes; what a node is has nothing to do with its links.
	stands(t, w, 1)
	all(t, w, cut(1, 2), crash(3, 0), cut(1, 3))
	is(t, routes(w), "1:12 2:13")
	tells(t, w, deliver(0), "ok")
	tells(t, w, link(3, 1), "ok")
}

// halfWritten is a world of one node whose disk has bytes that are not durable.
func halfWritten(t *testing.T) (w *world.World, durable, more int) {
	t.Helper()
	w = led(t, 1)
	all(t, w, put(1, 1, "a", "x"), pick(1, node.PCall), pick(1, node.PWork), pick(1, node.PWrite))
	for _, f := range w.Files(1) {
		durable += f.Synced
		more += len(f.Data) - f.Synced
	}
	if durable == 0 || more < 3 {
		t.Fatalf("%d and %d bytes", durable, more)
	}
	return w, durable, more
}

func TestP15_2_Crash(t *testing.T) {
	_, durable, more := halfWritten(t)
	for _, keep := range []int{math.MinInt, -1, 0, 1, 2, more - 1, more, more + 1, math.MaxInt} {
		w, _, _ := halfWritten(t)
		was := view(t, w, 1)
		tells(t, w, crash(1, keep), "ok")
		size := 0
		for _, f := range w.Files(1) {
			is(t, f.Synced, len(f.Data))
			size += f.Synced
		}
		is(t, size, durable+min(max(keep, 0), more))
		now, up := w.View(1)
		is(t, say(now, up), say(was, false))
		// Again: it isn't up, but crashes all the same.
		tells(t, w, crash(1, keep), "ok")
		tells(t, w, start(1, 0), "ok")
		is(t, view(t, w, 1).Core.Last, map[bool]int{true: 2, false: 1}[keep >= more])
	}
}

// A crash of a node does nothing to mail, clients and other nodes; the disk is up and not armed behind it.
func TestP15_2_CrashTakesNothingElse(t *testing.T) {
	w := candidate(t, 3)
	all(t, w, get(1, 1, "a"), arm(1, 1))
	others := say(toldOf(w, 2), toldOf(w, 3), routes(w))
	all(t, w, crash(1, 0))
	is(t, say(toldOf(w, 2), toldOf(w, 3), routes(w)), others)
	tells(t, w, get(1, 2, "a"), err(api.ErrThere))
	all(t, w, start(1, 0), deliver(0), deliver(0))
	is(t, say(view(t, w, 2).Inbox, view(t, w, 3).Inbox), "1 1")
	all(t, w, calm(1, 12))
	is(t, w.Leader(), 1)
}

func TestP15_2_Start(t *testing.T) {
	for how, w := range downs(t) {
		unchanged(t, w, start(1, 0), err(api.ErrThere))
		if how == "failed" {
			// The disk is down still: node.Open's error.
			unchanged(t, w, start(3, 0), err(api.ErrDown))
			all(t, w, crash(3, 0))
		}
		d, _ := disk.Load(w.Files(3))
		n, _ := node.Open(ofNode(opts(3), 3), d, 7)
		base, term, entries := n.Log()
		tells(t, w, start(3, 7), "ok")
		is(t, toldOf(w, 3), say(n.View(), true, n.Get("a"), n.Get("b"), n.Get("c"), base, term, entries, d.Files()))
		is(t, say(view(t, w, 3).Core.Timeout, view(t, w, 3).Core.Last), "17 1")
		unchanged(t, w, start(3, 0), err(api.ErrThere))
	}
	w := made(t, 1)
	all(t, w, stop(1))
	unchanged(t, w, start(1, 0), err(api.ErrThere)) // it is stopped, but its tasks have not ended
	for _, x := range [][2]int{{-5, 10}, {80, 90}, {500, 90}} {
		all(t, w, crash(1, 0), start(1, x[0]))
		is(t, view(t, w, 1).Core.Timeout, x[1])
	}
}

// What a disk has that fails at the start: the error goes up, the node is what it was.
func TestP15_2_StartFails(t *testing.T) {
	w, _, _ := halfWritten(t)
	all(t, w, crash(1, 2), arm(1, 1))
	was := view(t, w, 1)
	tells(t, w, start(1, 3), err(api.ErrDown)) // it cuts the torn end off, or syncs
	now, up := w.View(1)
	is(t, say(now, up), say(was, false))
	tells(t, w, start(1, 3), err(api.ErrDown))
	tells(t, w, tick(1, 0), err(api.ErrDown))
	all(t, w, crash(1, 0), start(1, 3))
	is(t, view(t, w, 1).Core.Timeout, 13)
}

func TestP15_2_Stop(t *testing.T) {
	w := led(t, 3)
	tells(t, w, stop(2), "ok")
	v, up := w.View(2)
	is(t, say(v.Stopped, v.Up, up), "true true true")
	is(t, view(t, w, 1).Stopped, false)
	unchanged(t, w, stop(2), "ok")
	tells(t, w, tick(2, 0), "no")
	tells(t, w, pick(2, node.PInbox), "ok, end 2 1")
	tells(t, w, pick(2, node.PTick), "no")
	tells(t, w, pick(2, node.PApply), "ok, end 2 3")
	tells(t, w, pick(2, node.PSync), "ok, end 2 2")
	tells(t, w, stop(2), "ok")
	tells(t, w, start(2, 0), err(api.ErrThere))
	tells(t, w, pick(2, node.PSend), "ok, end 2 4")
	v, up = w.View(2)
	is(t, say(v.Stopped, v.Up, up), "true true false")
	tells(t, w, stop(2), err(api.ErrDown))
	tells(t, w, pick(2, node.PSend), err(api.ErrDown))
	tells(t, w, start(2, 0), "ok")
}

func TestP15_2_Arm(t *testing.T) {
	for _, n := range []int{1, 2, 3} {
		w := made(t, 1)
		tells(t, w, arm(1, n), "ok")
		for range 10 {
			all(t, w, tick(1, 0), pick(1, node.PTick))
		}
		all(t, w, pick(1, node.PWork))
		want := []string{"", "ok, down 1", "ok", "ok"}
		tells(t, w, pick(1, node.PWrite), want[n])
		if n > 1 {
			tells(t, w, pick(1, node.PSync), []string{"", "", "ok, down 1", "ok, sync 1 1"}[n])
		}
		_, up := w.View(1)
		is(t, up, n == 3)
	}
	// One that isn't up has a disk, too; below 1 it isn't armed any more.
	w := made(t, 2)
	all(t, w, crash(2, 0), arm(2, 1))
	tells(t, w, start(2, 0), err(api.ErrDown))
	all(t, w, crash(2, 0), arm(2, 1), arm(2, 0), start(2, 0))
	for _, n := range far() {
		tells(t, w, arm(1, n), "ok")
	}
}
