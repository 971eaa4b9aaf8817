package world_test

import (
	"fmt"
	"math"
	"strings"
	"testing"

	"synod/api"
	"synod/core"
	"synod/disk"
	"synod/node"
	"synod/world"
)

// say is all of a list of answers, as one text.
func say(l ...any) string { return strings.TrimSuffix(fmt.Sprintln(l...), "\n") }

// is holds an answer against the one that the document asks.
func is(t *testing.T, have, want any) {
	t.Helper()
	if say(have) != say(want) {
		t.Errorf("have %v\nwant %v", have, want)
	}
}

// far are ints that lie far out of range.
func far() []int {
	return []int{math.MinInt, -api.MaxIndex, -8, -1, 2000000, api.MaxIndex, math.MaxInt}
}

// opts are the chapter's, of some nodes.
func opts(nodes int) world.Opts {
	return world.Opts{Nodes: nodes, Clients: 2, Node: node.Opts{
		Core:    core.Opts{Election: 10, Beat: 1, Batch: 8, Window: 4, Reads: 4, Pending: 100},
		Segment: 4096, Inbox: 8, Ticks: 8, Calls: 8, Jobs: 8, Applies: 8, Out: 8,
	}}
}

// ofNode are the options that a world's node has.
func ofNode(o world.Opts, id int) node.Opts {
	n := o.Node
	n.Core.ID, n.Core.Nodes = id, o.Nodes
	return n
}

// with is a world of these options.
func with(t *testing.T, o world.Opts) *world.World {
	t.Helper()
	w, e := world.New(o)
	if w == nil || e != api.OK {
		t.Fatalf("New: %d", e)
	}
	return w
}

// made is a world of so many nodes.
func made(t *testing.T, nodes int) *world.World {
	t.Helper()
	return with(t, opts(nodes))
}

// The acts.
func tick(id, draw int) world.Act { return world.Act{Kind: world.WTick, Node: id, N: draw} }
func pick(id, kind int) world.Act { return world.Act{Kind: world.WPick, Node: id, N: kind} }
func deliver(i int) world.Act     { return world.Act{Kind: world.WDeliver, N: i} }
func drop(i int) world.Act        { return world.Act{Kind: world.WDrop, N: i} }
func double(i int) world.Act      { return world.Act{Kind: world.WCopy, N: i} }
func spoil(i, bit int) world.Act  { return world.Act{Kind: world.WSpoil, N: i, M: bit} }
func move(i, to int) world.Act    { return world.Act{Kind: world.WMove, N: i, M: to} }
func link(a, b int) world.Act     { return world.Act{Kind: world.WLink, Node: a, N: b, M: 1} }
func cut(a, b int) world.Act      { return world.Act{Kind: world.WLink, Node: a, N: b} }
func crash(id, keep int) world.Act {
	return world.Act{Kind: world.WCrash, Node: id, N: keep}
}
func start(id, draw int) world.Act { return world.Act{Kind: world.WStart, Node: id, N: draw} }
func stop(id int) world.Act        { return world.Act{Kind: world.WStop, Node: id} }
func arm(id, n int) world.Act      { return world.Act{Kind: world.WArm, Node: id, N: n} }
func get(client, id int, key string) world.Act {
	return world.Act{Kind: world.WCall, Client: client, Node: id, Op: api.OpGet, Key: key}
}
func put(client, id int, key, value string) world.Act {
	return world.Act{Kind: world.WCall, Client: client, Node: id, Op: api.OpPut, Key: key, Value: value}
}
func remove(client, id int, key string) world.Act {
	return world.Act{Kind: world.WCall, Client: client, Node: id, Op: api.OpDelete, Key: key}
}
func swap(client, id int, key, old, value string) world.Act {
	return world.Act{Kind: world.WCall, Client: client, Node: id, Op: api.OpSwap, Key: key, Value: value, Old: old}
}
func again(client, id int) world.Act {
	return world.Act{Kind: world.WAgain, Client: client, Node: id}
}
func give(client int) world.Act     { return world.Act{Kind: world.WGive, Client: client} }
func calm(id, rounds int) world.Act { return world.Act{Kind: world.WCalm, Node: id, N: rounds} }

// replied is a reply as text.
func replied(r api.Reply) string {
	words := []string{"", "done", "none", "other", "old", "full", "lead", "busy", "lost", "limit", "down"}
	if r.Code < 0 || r.Code >= len(words) {
		return say("code", r.Code)
	}
	return strings.TrimSpace(words[r.Code] + " " + r.Value)
}

// shown is an event as text; what has no meaning in it is shown, too, where it isn't zero.
func shown(e world.Event) string {
	var s string
	switch e.Kind {
	case node.ESend, node.ESync, node.EApply, node.ESnap, node.EEnd:
		words := map[int]string{node.ESend: "send", node.ESync: "sync", node.EApply: "apply", node.ESnap: "snap", node.EEnd: "end"}
		s = say(words[e.Kind], e.Node, e.Number)
		e.Number = 0
	case node.EDown:
		s = say("down", e.Node)
	case world.EBack:
		s = say("back", e.Client, e.Node, replied(e.Reply))
		e.Client, e.Reply = 0, api.Reply{}
	default:
		s = say("kind", e.Kind)
	}
	e.Kind, e.Node = 0, 0
	if e != (world.Event{}) {
		s += say(" and", e)
	}
	return s
}

// shownAll is what an act told as text: ok, no, or the error's number; then its events, with commas between.
func shownAll(x world.Told) string {
	l := []string{"no"}
	if x.Did {
		l[0] = "ok"
	}
	if x.Err != api.OK {
		l = []string{say("err", int(x.Err))}
		if x.Did {
			l = append(l, "did")
		}
	}
	for _, e := range x.Events {
		l = append(l, shown(e))
	}
	return strings.Join(l, ", ")
}

// err is what an act tells beside an error.
func err(e api.Errno) string { return say("err", int(e)) }

// tells does an act and holds what it tells against its text.
func tells(t *testing.T, w *world.World, a world.Act, want string) {
	t.Helper()
	if have := shownAll(w.Do(a)); have != want {
		t.Errorf("%v\nhave %s\nwant %s", a, have, want)
	}
}

// all does acts that have to do something.
func all(t *testing.T, w *world.World, acts ...world.Act) {
	t.Helper()
	for _, a := range acts {
		if x := w.Do(a); !x.Did || x.Err != api.OK {
			t.Fatalf("%v: %s", a, shownAll(x))
		}
	}
}

// op is an operation as text.
func op(x api.Op) string {
	words := []string{"", "get", "put", "delete", "swap"}
	kind := say("op", x.Kind)
	if x.Kind > 0 && x.Kind < len(words) {
		kind = words[x.Kind]
	}
	s := fmt.Sprintf("%d %d %s %s %q %q %d ", x.Client, x.Seq, kind, x.Key, x.Value, x.Old, x.Call)
	if x.Back == 0 && x.Reply == (api.Reply{}) {
		return s + "open"
	}
	return s + say(x.Back, replied(x.Reply))
}

// history holds a world's history against its text, a line an operation.
func history(t *testing.T, w *world.World, want ...string) {
	t.Helper()
	if have := ops(w.History()); have != strings.Join(want, "\n") {
		t.Errorf("have\n%s\nwant\n%s", have, strings.Join(want, "\n"))
	}
}

// ops are operations as text.
func ops(l []api.Op) string {
	var lines []string
	for _, x := range l {
		lines = append(lines, op(x))
	}
	return strings.Join(lines, "\n")
}

// routes are a network's mails as text: which one, from where to where, ! if it is spoilt.
func routes(w *world.World) string {
	var l []string
	for _, m := range w.Mail() {
		s := fmt.Sprintf("%d:%d%d", m.Number, m.From, m.To)
		if m.Spoilt {
			s += "!"
		}
		l = append(l, s)
	}
	return strings.Join(l, " ")
}

// view is a node's, which has to be there.
func view(t *testing.T, w *world.World, id int) node.View {
	t.Helper()
	v, _ := w.View(id)
	return v
}

// led is a world of so many nodes that node 1 leads; nothing is to be done in it.
func led(t *testing.T, nodes int) *world.World {
	t.Helper()
	w := made(t, nodes)
	all(t, w, calm(1, 12))
	if w.Leader() != 1 || len(w.Mail()) > 0 {
		t.Fatalf("%d leads", w.Leader())
	}
	return w
}

// told is all that a world tells of itself without a change, as text.
func told(w *world.World, nodes int) string {
	l := []string{say(w.Now(), w.Leader(), len(w.Mail())), ops(w.History()), say(w.Mail())}
	for id := 1; id <= nodes; id++ {
		l = append(l, toldOf(w, id))
	}
	return strings.Join(l, "\n")
}

// toldOf is all that it tells of a node.
func toldOf(w *world.World, id int) string {
	v, up := w.View(id)
	base, term, entries := w.Log(id)
	return say(v, up, w.Get(id, "a"), w.Get(id, "b"), w.Get(id, "c"), base, term, entries, w.Files(id))
}

// The chapter's examples, line by line.
func TestP15_Example(t *testing.T) {
	w := made(t, 1)
	tells(t, w, calm(1, 9), "ok")
	is(t, w.Leader(), 0)
	tells(t, w, calm(1, 1), "ok, sync 1 1, sync 1 2, apply 1 1")
	is(t, w.Leader(), 1)
	tells(t, w, put(1, 1, "a", "x"), "ok")
	tells(t, w, put(1, 1, "a", "x"), err(api.ErrThere))
	tells(t, w, give(2), err(api.ErrThere))
	tells(t, w, put(3, 1, "a", "x"), err(api.ErrNone))
	tells(t, w, calm(1, 1), "ok, sync 1 3, sync 1 4, apply 1 2, back 1 1 done")
	tells(t, w, get(2, 1, "a"), "ok")
	tells(t, w, calm(1, 1), "ok, back 2 1 done x")
	tells(t, w, crash(1, 0), "ok")
	tells(t, w, remove(2, 1, "a"), "ok, back 2 1 down")
	tells(t, w, start(1, 0), "ok")
	tells(t, w, again(2, 1), "ok")
	// It found that 1 and 2 are committed; it leads in the tenth round.
	tells(t, w, calm(1, 12), "ok, back 2 1 lead, apply 1 1, apply 1 2, sync 1 1, sync 1 2, apply 1 3")
	history(t, w,
		`1 1 put a "x" "" 3 7 done`,
		`2 0 get a "" "" 8 9 done x`,
		`2 1 delete a "" "" 11 open`)
	is(t, w.Now(), 14)
}

// A new world: nothing has happened, and all is as node.Open makes it of an empty disk.
func TestP15_1_New(t *testing.T) {
	for nodes := 1; nodes <= api.MaxNodes; nodes++ {
		for _, clients := range []int{1, 2, api.MaxClients} {
			o := opts(nodes)
			o.Clients = clients
			w := with(t, o)
			is(t, say(w.Now(), w.Leader(), w.History(), w.Mail()), "0 0 [] []")
			for id := 1; id <= nodes; id++ {
				d := disk.New()
				n, _ := node.Open(ofNode(o, id), d, 0)
				base, term, entries := n.Log()
				is(t, toldOf(w, id), say(n.View(), true, n.Get("a"), n.Get("b"), n.Get("c"), base, term, entries, d.Files()))
			}
			for c := 1; c <= clients; c++ {
				tells(t, w, give(c), err(api.ErrThere))
			}
			tells(t, w, give(clients+1), err(api.ErrNone))
			tells(t, w, stop(nodes+1), err(api.ErrNone))
		}
	}
}

// The draw at the start is 0, so that the timeout is Election.
func TestP15_1_StartedWithDraw0(t *testing.T) {
	w := made(t, 3)
	for id := 1; id <= 3; id++ {
		is(t, view(t, w, id).Core.Timeout, 10)
	}
}

// What stands in Core.Nodes and Core.ID doesn't matter.
func TestP15_1_FieldsThatDoNotMatter(t *testing.T) {
	acts := []world.Act{calm(2, 12), put(1, 2, "a", "x"), calm(2, 3), crash(3, 0), calm(1, 4), get(1, 2, "a"), calm(1, 3)}
	want, history, _ := world.Run(opts(3), acts)
	for _, x := range append(far(), 0, 1, 2, 3, 4, 7) {
		for _, y := range []int{x, 0, 2} {
			o := opts(3)
			o.Node.Core.Nodes, o.Node.Core.ID = x, y
			have, ops, e := world.Run(o, acts)
			is(t, say(have, ops, e), say(want, history, api.OK))
		}
	}
}

// Each node has its own id, and all of them make up the quorum.
func TestP15_1_EachNodeIsItself(t *testing.T) {
	w := made(t, 5)
	for id := 1; id <= 5; id++ {
		stands(t, w, id)
		is(t, view(t, w, id).Core.Role, api.Candidate)
		is(t, view(t, w, id).Core.Vote, id)
	}
	is(t, routes(w), "1:12 2:13 3:14 4:15 5:21 6:23 7:24 8:25 9:31 10:32 11:34 12:35 13:41 14:42 15:43 16:45 17:51 18:52 19:53 20:54")
}

// stands lets a node stand, and send all that it then has to send.
func stands(t *testing.T, w *world.World, id int) {
	t.Helper()
	for range 10 {
		all(t, w, tick(id, 0), pick(id, node.PTick))
	}
	flush(t, w, id)
}

// flush lets a node's work be written, synced and sent.
func flush(t *testing.T, w *world.World, id int) {
	t.Helper()
	for range 4 {
		for _, kind := range []int{node.PNotice, node.PWork, node.PWrite, node.PSync, node.PApply, node.PSend} {
			for w.Do(pick(id, kind)).Did {
			}
		}
	}
}

// edges are options one of which is at its edge, by whether they may be.
func edges() (may, not []world.Opts) {
	core := func(o *world.Opts) *core.Opts { return &o.Node.Core }
	for _, x := range []struct {
		field       func(o *world.Opts) *int
		least, most int
	}{
		{func(o *world.Opts) *int { return &o.Nodes }, 1, api.MaxNodes},
		{func(o *world.Opts) *int { return &o.Clients }, 1, api.MaxClients},
		{func(o *world.Opts) *int { return &core(o).Election }, 2, 1000},
		{func(o *world.Opts) *int { return &core(o).Beat }, 1, 9},
		{func(o *world.Opts) *int { return &core(o).Batch }, 1, api.MaxEntries},
		{func(o *world.Opts) *int { return &core(o).Window }, 1, api.MaxQueue},
		{func(o *world.Opts) *int { return &core(o).Reads }, 1, api.MaxQueue},
		{func(o *world.Opts) *int { return &core(o).Pending }, 1, api.MaxLog},
		{func(o *world.Opts) *int { return &o.Node.Every }, 0, api.MaxLog},
		{func(o *world.Opts) *int { return &o.Node.Keep }, 0, api.MaxLog},
		{func(o *world.Opts) *int { return &o.Node.Segment }, 64, api.MaxFrame},
		{func(o *world.Opts) *int { return &o.Node.Inbox }, 1, api.MaxQueue},
		{func(o *world.Opts) *int { return &o.Node.Ticks }, 1, api.MaxQueue},
		{func(o *world.Opts) *int { return &o.Node.Calls }, 1, api.MaxQueue},
		{func(o *world.Opts) *int { return &o.Node.Jobs }, 1, api.MaxQueue},
		{func(o *world.Opts) *int { return &o.Node.Applies }, 1, api.MaxQueue},
		{func(o *world.Opts) *int { return &o.Node.Out }, 1, api.MaxQueue},
	} {
		set := func(n int) world.Opts {
			o := opts(3)
			*x.field(&o) = n
			return o
		}
		may = append(may, set(x.least), set(x.most))
		not = append(not, set(x.least-1), set(x.most+1))
		for _, n := range far() {
			not = append(not, set(n))
		}
	}
	return may, not
}

func TestP15_1_Opts(t *testing.T) {
	may, not := edges()
	for _, o := range may {
		if w, e := world.New(o); w == nil || e != api.OK {
			t.Errorf("%v: %d", o, e)
		}
	}
	for _, o := range not {
		if w, e := world.New(o); w != nil || e != api.ErrOpts {
			t.Errorf("%v: %d", o, e)
		}
		told, ops, e := world.Run(o, []world.Act{calm(1, 1)})
		is(t, say(told, ops, e), say("[] []", api.ErrOpts))
	}
}

// Each act is one more, whatever it is.
func TestP15_1_Now(t *testing.T) {
	w := made(t, 2)
	for i, a := range []world.Act{
		tick(1, 0), tick(3, 0), {}, {Kind: 17}, {Kind: -1}, calm(1, 200), calm(1, 201), deliver(0), give(1), get(1, 1, "a"),
		get(1, 1, "a"), crash(1, 0), tick(1, 0), pick(1, 1), pick(2, 99), drop(-1), cut(1, 2), start(1, 0), stop(2), arm(1, 0), again(2, 1),
	} {
		is(t, w.Now(), i)
		w.Do(a)
		is(t, w.Now(), i+1)
	}
}

// Worlds know nothing of one another.
func TestP15_1_TwoWorlds(t *testing.T) {
	a, b := made(t, 3), made(t, 3)
	was := told(b, 3)
	all(t, a, calm(1, 12), put(1, 1, "a", "x"), calm(1, 3), cut(1, 2), crash(3, 0), arm(2, 1), put(2, 1, "b", "y"))
	is(t, told(b, 3), was)
	all(t, b, calm(2, 12), put(1, 2, "a", "z"))
	all(t, b, calm(2, 3))
	history(t, b, `1 1 put a "z" "" 2 3 done`)
	is(t, say(a.Leader(), b.Leader(), a.Get(1, "a"), b.Get(1, "a"), b.Get(3, "a")), "1 2 {1 x} {1 z} {1 z}")
}

// someActs are acts of all kinds, wrong ones among them.
func someActs() []world.Act {
	return []world.Act{
		calm(1, 12), put(1, 1, "a", "x"), get(2, 2, "a"), calm(1, 1), again(2, 1), give(1), calm(1, 1), cut(1, 3), swap(1, 1, "a", "x", "y"),
		tick(2, 5), pick(2, node.PTick), {Kind: 99}, crash(2, 3), calm(3, 2), put(2, 2, "b", "z"), start(2, 9), start(2, 9), link(1, 3), calm(1, 3),
		again(2, 1), tick(1, 0), pick(1, node.PTick), pick(1, node.PCall), pick(1, node.PWork), pick(1, node.PSend), pick(1, node.PSend), double(0),
		spoil(1, 9), move(1, 0), drop(2), deliver(0), deliver(9), arm(3, 1), calm(1, 2), stop(2), calm(1, 1), stop(2), remove(1, 1, "a"), calm(1, 3),
	}
}

func TestP15_1_Run(t *testing.T) {
	acts := someActs()
	have, ops, e := world.Run(opts(3), acts)
	w := made(t, 3)
	var want []world.Told
	for _, a := range acts {
		want = append(want, w.Do(a))
	}
	is(t, say(have, ops, e), say(want, w.History(), api.OK))
	have, ops, e = world.Run(opts(3), nil)
	is(t, say(have, ops, e), say("[] []", api.OK))
}

func TestP15_1_RunOfMany(t *testing.T) {
	acts := make([]world.Act, api.MaxActs+1)
	for i := range acts {
		acts[i] = give(1)
	}
	acts[api.MaxActs-1] = put(1, 1, "", "")
	told, ops, e := world.Run(opts(1), acts[:api.MaxActs])
	is(t, say(len(told), len(ops), e), say(api.MaxActs, 1, api.OK))
	is(t, say(shownAll(told[0]), shownAll(told[api.MaxActs-1]), ops[0].Call), say(err(api.ErrThere), "ok, back 1 1 limit", api.MaxActs))
	for _, nodes := range []int{1, 3, 0, 8} { // ahead of New's error
		told, ops, e = world.Run(opts(nodes), acts)
		is(t, say(told, ops, e), say("[] []", api.ErrMany))
	}
}
