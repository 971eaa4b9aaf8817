package world_test

import (
	"strings"
	"testing"

	"synod/api"
	"synod/disk"
	"synod/net"
	"synod/node"
	"synod/world"
)

// The chapter once more, in other words: lives of nodes stand one behind the other, and the calls in a list; who is at what is looked up there.

type modelLife struct {
	n       *node.Node
	crashed bool
}

type modelCall struct {
	op  int  // which operation it is of
	out bool // it is the last one of a client that is at that operation, and has no reply
}

type modelOp struct {
	api.Op
	left bool // answered, or given up
}

type model struct {
	o     world.Opts
	time  int
	lives [][]*modelLife // by node, 0 is nobody
	disks []*disk.Disk
	mail  *net.Net
	ops   []*modelOp
	calls []*modelCall // an ID's is that of the ID less 1
}

func newModel(o world.Opts) *model {
	m := &model{o: o, lives: make([][]*modelLife, 8), disks: make([]*disk.Disk, 8), mail: net.New(o.Nodes)}
	for id := 1; id <= o.Nodes; id++ {
		m.disks[id] = disk.New()
		n, _ := node.Open(ofNode(o, id), m.disks[id], 0)
		m.lives[id] = []*modelLife{{n: n}}
	}
	return m
}

func (m *model) life(id int) *modelLife { return m.lives[id][len(m.lives[id])-1] }

func (m *model) up(id int) bool {
	l := m.life(id)
	return !l.crashed && l.n.View().Up && !l.n.Done()
}

// at is the operation that a client is at; -1, if it is at none.
func (m *model) at(client int) int {
	for i, x := range m.ops {
		if x.Client == client && !x.left {
			return i
		}
	}
	return -1
}

func (m *model) isNode(id int) bool   { return id >= 1 && id <= m.o.Nodes }
func (m *model) isClient(id int) bool { return id >= 1 && id <= m.o.Clients }

// back lets the client of an operation get a reply.
func (m *model) back(op, id int, r api.Reply) world.Event {
	for _, c := range m.calls {
		if c.op == op {
			c.out = false
		}
	}
	x := m.ops[op]
	if strings.Contains(" done none other old full limit ", " "+strings.Fields(replied(r))[0]+" ") {
		x.Back, x.Reply, x.left = m.time, r, true
	}
	return world.Event{Kind: 8, Node: id, Client: x.Client, Reply: r}
}

func (m *model) callAt(op, id int) []world.Event {
	x := m.ops[op]
	call := &modelCall{op: op}
	m.calls = append(m.calls, call)
	c := api.Command{Op: x.Kind, Client: x.Client, Seq: x.Seq, Key: x.Key, Value: x.Value, Old: x.Old}
	if x.Kind == api.OpGet {
		c = api.Command{Op: x.Kind, Key: x.Key}
	}
	r, ok := api.Reply{Code: api.RDown}, false
	if m.up(id) {
		r, ok = m.life(id).n.Call(node.Call{ID: len(m.calls), Command: c})
	}
	if !ok {
		return []world.Event{m.back(op, id, r)}
	}
	for _, c := range m.calls {
		if c.op == op {
			c.out = false
		}
	}
	call.out = true
	return nil
}

func (m *model) pick(id, kind int) (l []world.Event, did bool) {
	events, did := m.life(id).n.Pick(kind)
	for _, e := range events {
		if e.Kind == node.EReply {
			if c := m.calls[e.Number-1]; c.out {
				l = append(l, m.back(c.op, id, e.Reply))
			}
			continue
		}
		if e.Kind == node.ESend {
			m.mail.Send(id, e.Number, e.Data)
		}
		l = append(l, world.Event{Kind: e.Kind, Node: id, Number: e.Number})
	}
	return l, did
}

func (m *model) deliver(i int) (bool, api.Errno) {
	x, ok := m.mail.Take(i)
	if !ok {
		return false, api.ErrNone
	}
	return m.up(x.To) && m.life(x.To).n.Deliver(x.Data), api.OK
}

func (m *model) round(quick int) (l []world.Event) {
	for id := 1; id <= m.o.Nodes; id++ {
		if m.up(id) && id == quick {
			m.life(id).n.Tick(0)
		} else if m.up(id) {
			m.life(id).n.Tick(8 * m.o.Node.Core.Election)
		}
	}
	for sweep, did := 0, true; sweep < 50 && did; sweep++ {
		did = false
		for at := range 9 * m.o.Nodes {
			id, kind := at/9+1, at%9+1
			for n := 0; n < 10000 && m.up(id); n++ {
				events, ok := m.pick(id, kind)
				l = append(l, events...)
				if !ok {
					break
				}
				did = true
			}
		}
		for range m.mail.Len() {
			m.deliver(0)
			did = true
		}
	}
	return l
}

// wrong is the error that an act has; OK, if it has none, or only its doing tells.
func (m *model) wrong(a world.Act) api.Errno {
	// Node, the one of a link, client.
	names := []string{"-", "n", "n", "", "", "", "", "", "nl", "n", "n", "n", "n", "nc", "nc", "c", "n"}
	if a.Kind < 1 || a.Kind > 16 {
		return api.ErrKind
	}
	for _, x := range names[a.Kind] {
		if x == 'n' && !m.isNode(a.Node) || x == 'l' && !m.isNode(a.N) || x == 'c' && !m.isClient(a.Client) {
			return api.ErrNone
		}
	}
	switch a.Kind {
	case world.WTick, world.WPick, world.WStop:
		if !m.up(a.Node) {
			return api.ErrDown
		}
	case world.WStart:
		if m.up(a.Node) {
			return api.ErrThere
		}
	case world.WCall:
		if m.at(a.Client) >= 0 {
			return api.ErrThere
		}
	case world.WAgain, world.WGive:
		if m.at(a.Client) < 0 {
			return api.ErrThere
		}
	case world.WCalm:
		if a.N < 1 || a.N > 200 {
			return api.ErrRange
		}
	}
	return api.OK
}

func (m *model) do(a world.Act) world.Told {
	m.time++
	x := world.Told{Err: m.wrong(a), Did: true}
	if x.Err != api.OK {
		return world.Told{Err: x.Err}
	}
	switch a.Kind {
	case world.WTick:
		x.Did = m.life(a.Node).n.Tick(a.N)
	case world.WPick:
		x.Events, x.Did = m.pick(a.Node, a.N)
	case world.WDeliver:
		x.Did, x.Err = m.deliver(a.N)
	case world.WDrop:
		x.Did = m.mail.Drop(a.N)
	case world.WCopy:
		x.Did = m.mail.Copy(a.N)
	case world.WSpoil:
		x.Did = m.mail.Spoil(a.N, a.M)
	case world.WMove:
		x.Did = m.mail.Move(a.N, a.M)
	case world.WLink:
		x.Did = m.mail.Link(a.Node, a.N, a.M != 0)
	case world.WCrash:
		m.life(a.Node).crashed = true
		m.disks[a.Node].Crash(a.N)
	case world.WStart:
		n, e := node.Open(ofNode(m.o, a.Node), m.disks[a.Node], a.N)
		if e != api.OK {
			return world.Told{Err: e}
		}
		m.lives[a.Node] = append(m.lives[a.Node], &modelLife{n: n})
	case world.WStop:
		m.life(a.Node).n.Stop()
	case world.WArm:
		m.disks[a.Node].Arm(a.N)
	case world.WCall:
		m.ops = append(m.ops, m.operation(a))
		x.Events = m.callAt(len(m.ops)-1, a.Node)
	case world.WAgain:
		x.Events = m.callAt(m.at(a.Client), a.Node)
	case world.WGive:
		op := m.at(a.Client)
		m.ops[op].left = true
		for _, c := range m.calls {
			c.out = c.out && c.op != op
		}
	case world.WCalm:
		for range a.N {
			x.Events = append(x.Events, m.round(a.Node)...)
		}
	}
	return x
}

// operation is a new one: a write's Seq is how many writes its client called, with this one.
func (m *model) operation(a world.Act) *modelOp {
	x := &modelOp{Op: api.Op{Client: a.Client, Kind: a.Op, Key: a.Key, Value: a.Value, Old: a.Old, Call: m.time}}
	if a.Op != api.OpGet {
		x.Seq = 1
		for _, y := range m.ops {
			if y.Client == a.Client && y.Kind != api.OpGet {
				x.Seq++
			}
		}
	}
	return x
}

func (m *model) history() []api.Op {
	var l []api.Op
	for _, x := range m.ops {
		l = append(l, x.Op)
	}
	return l
}

// told is all that the model tells of itself.
func (m *model) told() string {
	leader, term := 0, 0
	var nodes []string
	for id := 1; id <= m.o.Nodes; id++ {
		n := m.life(id).n
		v := n.View()
		if m.up(id) && v.Core.Role == api.Leader && v.Core.Term > term {
			leader, term = id, v.Core.Term
		}
		base, baseTerm, entries := n.Log()
		nodes = append(nodes, say(v, m.up(id), n.Get("a"), n.Get("b"), n.Get("c"), base, baseTerm, entries, m.disks[id].Files()))
	}
	l := []string{say(m.time, leader, m.mail.Len()), ops(m.history()), say(m.mail.List())}
	return strings.Join(append(l, nodes...), "\n")
}

// playModel plays worlds and the model, and counts what happened.
func playModel(t *testing.T, first, worlds uint64, acts int, counts map[string]int) {
	t.Helper()
	for seed := first; seed < first+worlds; seed++ {
		p := newPlay(t, seed)
		m := newModel(p.o)
		for i := range acts {
			a := p.next()
			have, want := p.do(a), m.do(a)
			if shownAll(have) != shownAll(want) {
				t.Fatalf("seed %d, %v\nhave %s\nwant %s", seed, a, shownAll(have), shownAll(want))
			}
			count(counts, a, have)
			if i%29 == 0 || i == acts-1 || have.Err != api.OK {
				if have, want := told(p.w, p.o.Nodes), m.told(); have != want {
					t.Fatalf("seed %d, %v\nhave %s\nwant %s", seed, a, have, want)
				}
			}
		}
	}
}

// count counts what an act told.
func count(counts map[string]int, a world.Act, x world.Told) {
	words := []string{"", "tick", "pick", "deliver", "drop", "copy", "spoil", "move", "link", "crash", "start", "stop", "arm", "call", "again", "give", "calm"}
	name := "none"
	if a.Kind > 0 && a.Kind < len(words) {
		name = words[a.Kind]
	}
	counts[name+" "+strings.Split(shownAll(x), ",")[0]]++
	for _, e := range x.Events {
		l := strings.Fields(shown(e))
		if e.Kind == world.EBack {
			counts["back "+l[3]]++
		} else {
			counts[l[0]]++
		}
	}
}

// enough tells of what happened too seldom.
func enough(t *testing.T, counts map[string]int, least int, kinds string) {
	t.Helper()
	for _, k := range strings.Split(kinds, ", ") {
		if counts[k] < least {
			t.Errorf("%s: %d times alone", k, counts[k])
		}
	}
}

func TestP15_2_Model(t *testing.T) {
	counts := map[string]int{}
	playModel(t, 20000, 200, 900, counts)
	none, down, there, rng := err(api.ErrNone), err(api.ErrDown), err(api.ErrThere), err(api.ErrRange)
	enough(t, counts, 20, "none "+err(api.ErrKind))
	for _, k := range strings.Fields("tick pick link crash start stop arm call again give calm deliver") {
		enough(t, counts, 20, k+" ok, "+k+" "+none)
	}
	for _, k := range strings.Fields("tick pick deliver drop copy spoil move link") {
		enough(t, counts, 20, k+" ok, "+k+" no")
	}
	enough(t, counts, 5, "tick "+down+", pick "+down+", stop "+down+", start "+there+", start "+down+", call "+there+", again "+there+", give "+there+", calm "+rng)
	enough(t, counts, 100, "send, sync, apply, snap, down, end")
	enough(t, counts, 5, "back done, back none, back other, back lead, back busy, back lost, back limit, back down")
	if t.Failed() {
		t.Log(counts)
	}
}
