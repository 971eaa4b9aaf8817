package world_test

import (
	"fmt"
	"slices"
	"testing"

	"synod/api"
	"synod/net"
	"synod/node"
	"synod/run"
	"synod/world"
)

// What DOC.md asks of every world: P0.8 to P0.15.

// spot is an index and a term.
type spot struct{ index, term int }

// known is what is known of a committed entry: its text, and the least term of a node that knew it.
type known struct {
	text string
	term int
}

// watch looks at a world behind each act.
type watch struct {
	*play
	leaders map[int]int          // by term
	votes   map[[2]int]int       // by node and term: whom it was sent for
	entries map[spot]string      // with the term of the one ahead
	commits map[int]known        // by index
	stores  map[int]string       // by the index up to which a store has all
	said    []api.Message        // the last one, by node, that leaned on its disk
	acked   map[[2]int]int       // by node and term: the index up to which it has told that it has all
	mails   int                  // how many were looked at
	lives   []*life              // by node
	calls   []api.Command        // by their IDs less 1
	answers map[[2]int]api.Reply // of the store, by client and Seq
	counts  map[string]int
}

// life is what was done to a node since it was started.
type life struct {
	files []api.File
	draw  int
	acts  []node.Act
	told  []world.Told
	armed bool // its disk: then it can't be played again
	over  bool
}

func newWatch(t *testing.T, seed uint64, counts map[string]int) *watch {
	t.Helper()
	w := &watch{play: newPlay(t, seed), leaders: map[int]int{}, votes: map[[2]int]int{}, entries: map[spot]string{}, commits: map[int]known{},
		stores: map[int]string{}, acked: map[[2]int]int{}, answers: map[[2]int]api.Reply{}, said: make([]api.Message, 8), counts: counts}
	for range 8 {
		w.lives = append(w.lives, &life{})
	}
	w.wrong = 0
	return w
}

// fail tells what was wrong, and the acts that led there.
func (w *watch) fail(form string, l ...any) {
	w.t.Helper()
	w.t.Fatalf("%s\nbehind %d acts of %v, the last ones %v", fmt.Sprintf(form, l...), len(w.acts), w.o, w.acts[max(0, len(w.acts)-30):])
}

// step does an act, and looks at all there is; a calm round is done by hand, so that all is seen.
func (w *watch) step(a world.Act) world.Told {
	if a.Kind == world.WCalm {
		for range a.N {
			byHand(w.w, w.o, a.Node, w.step)
		}
		return world.Told{Did: true}
	}
	mail, files := w.w.Mail(), w.w.Files(a.Node)
	told := w.do(a)
	count(w.counts, a, told)
	w.live(a, mail, files, told)
	if !told.Did {
		return told
	}
	w.letters()
	for id := 1; id <= w.o.Nodes; id++ {
		w.leads(id)
		w.log(id)
		w.store(id)
	}
	if a.Kind == world.WStart && told.Did {
		w.recovered(a.Node)
	}
	if a.Kind == world.WCrash && w.o.Nodes == 1 {
		// One that is alone leads ahead of any sync: what wasn't synced nobody else has, and it may lead in the same term again.
		clear(w.entries)
	}
	return told
}

// letters looks at new mail: what a node has said of its vote it doesn't take back.
func (w *watch) letters() {
	for _, x := range w.w.Mail() {
		if x.Number <= w.mails || x.Spoilt {
			continue
		}
		w.mails = max(w.mails, x.Number)
		m, ok := letter(x.Data)
		if !ok || m.From != x.From || m.To != x.To {
			w.fail("%v is %v", x, m)
		}
		switch m.Kind {
		case api.MVote:
			w.vote(m, m.From)
		case api.MVoteAns:
			if !m.Reject {
				w.vote(m, m.To)
			}
		case api.MAppAns:
			if at := [2]int{m.From, m.Term}; !m.Reject {
				w.acked[at] = max(w.acked[at], m.Index)
			}
		}
		if m.Kind != api.MApp && m.Kind != api.MBeat && m.Kind != api.MSnap && m.Term >= w.said[m.From].Term {
			w.said[m.From] = m
		}
	}
}

func (w *watch) vote(m api.Message, whom int) {
	at := [2]int{m.From, m.Term}
	if was, ok := w.votes[at]; ok && was != whom {
		w.fail("P0.8: %d votes for %d and %d in term %d", m.From, was, whom, m.Term)
	}
	w.votes[at] = whom
	w.counts["vote"]++
}

// leads looks at a leader: it is the only one of its term, and has all that was committed ahead of it.
func (w *watch) leads(id int) {
	v, up := w.w.View(id)
	if !up || v.Core.Role != api.Leader {
		return
	}
	if was, ok := w.leaders[v.Core.Term]; ok && was != id {
		w.fail("P0.8: %d and %d lead in term %d", was, id, v.Core.Term)
	} else if !ok {
		w.counts["leader"]++
	}
	w.leaders[v.Core.Term] = id
	base, _, entries := w.w.Log(id)
	for index, k := range w.commits {
		if k.term >= v.Core.Term || index <= base {
			continue
		}
		if index > base+len(entries) || say(entries[index-base-1]) != k.text {
			w.fail("P0.9: %d was committed in term %d; the leader %d of term %d has %v", index, k.term, id, v.Core.Term, entries)
		}
	}
}

// log looks at a node's log: entries of one index and term are the same everywhere, and so are those ahead.
func (w *watch) log(id int) {
	v, up := w.w.View(id)
	if !up {
		return
	}
	_, ahead, entries := w.w.Log(id)
	for _, e := range entries {
		text := say(ahead, e)
		at := spot{e.Index, e.Term}
		if was, ok := w.entries[at]; ok && was != text {
			w.fail("P0.9: %d of term %d is %s and %s", e.Index, e.Term, was, text)
		}
		w.entries[at] = text
		ahead = e.Term
		if e.Index > v.Core.Commit {
			continue
		}
		if was, ok := w.commits[e.Index]; ok && was.text != say(e) {
			w.fail("P0.9: committed at %d is %s and %s", e.Index, was.text, say(e))
		} else if !ok || was.term > v.Core.Term {
			w.commits[e.Index] = known{say(e), v.Core.Term}
			w.counts["commit"]++
		}
	}
}

// store looks at a store: it is what every one is that has all up to the same index.
func (w *watch) store(id int) {
	v, _ := w.w.View(id)
	have := say(w.w.Get(id, "a"), w.w.Get(id, "b"), w.w.Get(id, "c"))
	if was, ok := w.stores[v.Stored]; ok && was != have {
		w.fail("P0.9: stored at %d is %s and %s", v.Stored, was, have)
	}
	w.stores[v.Stored] = have
}

// recovered looks at a node that was started: what it has said leans on nothing that it hasn't.
func (w *watch) recovered(id int) {
	v, _ := w.w.View(id)
	m := w.said[id]
	vote, voted := w.votes[[2]int{id, v.Core.Term}]
	if v.Core.Term < m.Term || voted && v.Core.Vote != vote {
		w.fail("P0.14: node %d is in term %d and voted for %d; it said %v", id, v.Core.Term, v.Core.Vote, m)
	}
	if v.Core.Last < w.acked[[2]int{id, v.Core.Term}] {
		w.fail("P0.14: node %d has all up to %d; in term %d it said %d", id, v.Core.Last, v.Core.Term, w.acked[[2]int{id, v.Core.Term}])
	}
	if v.Core.Term > 0 {
		w.counts["recovered"]++
	}
}

// live goes on with the life of the node that an act is for.
func (w *watch) live(a world.Act, mail []net.Mail, files []api.File, told world.Told) {
	if a.Kind == world.WCall || a.Kind == world.WAgain {
		if told.Err == api.OK {
			w.calls = append(w.calls, w.command(a.Client))
		}
	}
	var b node.Act
	id := a.Node
	switch a.Kind {
	case world.WTick:
		b = node.Act{Kind: node.ATick, N: a.N}
	case world.WPick:
		b = node.Act{Kind: node.APick, N: a.N}
	case world.WStop:
		b = node.Act{Kind: node.AStop}
	case world.WDeliver:
		if told.Err != api.OK {
			return
		}
		b = node.Act{Kind: node.ADeliver, Data: mail[a.N].Data}
		id = mail[a.N].To
	case world.WCall, world.WAgain:
		if told.Err != api.OK {
			return
		}
		b = node.Act{Kind: node.ACall, Call: node.Call{ID: len(w.calls), Command: w.calls[len(w.calls)-1]}}
	case world.WArm:
		w.lives[id].armed = true
		return
	case world.WCrash:
		w.pure(id)
		w.lives[id] = &life{over: true}
		return
	case world.WStart:
		if told.Did {
			w.pure(id)
			w.lives[id] = &life{draw: a.N, files: files, armed: w.lives[id].armed}
		}
		return
	default:
		return
	}
	l := w.lives[id]
	l.acts = append(l.acts, b)
	l.told = append(l.told, told)
}

// command is that of the operation that a client has called last.
func (w *watch) command(client int) api.Command {
	l := w.w.History()
	for _, x := range slices.Backward(l) {
		if x.Client == client && x.Kind == api.OpGet {
			return api.Command{Op: x.Kind, Key: x.Key}
		} else if x.Client == client {
			return api.Command{Op: x.Kind, Client: x.Client, Seq: x.Seq, Key: x.Key, Value: x.Value, Old: x.Old}
		}
	}
	return api.Command{}
}

// pure plays a node's life again, by goroutines: it tells the same.
func (w *watch) pure(id int) {
	l := w.lives[id]
	if l.armed || l.over || len(l.acts) == 0 {
		return
	}
	told, _, e := run.Play(ofNode(w.o, id), l.files, l.draw, l.acts)
	if e != api.OK || len(told) != len(l.told) {
		w.fail("P0.13: node %d: %d", id, e)
	}
	for i, x := range told {
		var have, want []string
		for _, e := range x.Events {
			if e.Kind == node.EReply {
				w.once(w.calls[e.Number-1], e.Reply)
				continue
			}
			want = append(want, say(e.Kind, e.Number))
		}
		for _, e := range l.told[i].Events {
			if e.Kind != world.EBack {
				have = append(have, say(e.Kind, e.Number))
			}
		}
		// A call is done in a world also where it is refused; a stop also where it is one already; and where a node isn't up there is an error.
		did := x.Did == l.told[i].Did || l.acts[i].Kind == node.ACall || l.acts[i].Kind == node.AStop
		if say(have) != say(want) || !did {
			w.fail("P0.13: node %d, %v: have %v %t, want %v %t", id, l.acts[i], have, l.told[i].Did, want, x.Did)
		}
	}
	w.counts["life"]++
}

// once holds that a session's Seq gets one answer of the store, however often it was called; also where nobody waits for it.
func (w *watch) once(c api.Command, r api.Reply) {
	at := [2]int{c.Client, c.Seq}
	if c.Seq == 0 || r.Code > api.ROther {
		return
	}
	was, ok := w.answers[at]
	if ok && was != r {
		w.fail("P0.12: %v got %v and %v", c, was, r)
	} else if ok {
		w.counts["again"]++
	}
	w.answers[at] = r
}

// watched lets worlds go on for a while, and looks at them; what happened in them.
func watched(t *testing.T, first, worlds uint64, acts int) map[string]int {
	t.Helper()
	counts := map[string]int{}
	for seed := first; seed < first+worlds; seed++ {
		w := newWatch(t, seed, counts)
		for range acts {
			w.step(w.next())
		}
		for id := 1; id <= w.o.Nodes; id++ {
			w.pure(id)
		}
		w.linear()
	}
	return counts
}

func TestP0_8_To_14_Worlds(t *testing.T) {
	counts := watched(t, 30000, 70, 800)
	enough(t, counts, 50, "vote, leader, commit, recovered, life, again, linear, back done, back none, snap, crash ok, start ok")
	enough(t, counts, 3, "back lost, back other, back lead, back busy, back down, down, end")
	if t.Failed() {
		t.Log(counts)
	}
}

// linear holds that the history could have come from one map: key by key, if there are few enough operations of it.
func (w *watch) linear() {
	byKey := map[string][]api.Op{}
	for _, x := range w.w.History() {
		open := x.Back == 0
		if open && x.Kind != api.OpGet || !open && x.Reply.Code <= api.ROther {
			byKey[x.Key] = append(byKey[x.Key], x)
		}
	}
	for key, l := range byKey {
		if len(l) > 40 {
			continue
		}
		w.counts["linear"]++
		s := search{l, map[state]int{}}
		if !s.from(state{}) {
			w.fail("P0.11: the key %s\n%s", key, ops(l))
		}
	}
}

// state is which operations were done, and what the key is then.
type state struct {
	done  uint64
	there bool
	value string
}

// search looks for an order of operations.
type search struct {
	ops    []api.Op
	failed map[state]int
}

// from tells whether the operations that are left may be done from a state on.
func (s search) from(now state) bool {
	if s.failed[now] > 0 {
		return false
	}
	first := 1 << 62 // the first reply of one that is left
	for i, x := range s.ops {
		if now.done>>i&1 == 0 && x.Back > 0 {
			first = min(first, x.Back)
		}
	}
	if first == 1<<62 {
		return true
	}
	for i, x := range s.ops {
		if now.done>>i&1 == 1 || x.Call > first {
			continue
		}
		next, r := effect(now, x)
		next.done |= 1 << i
		if (x.Back == 0 || r == x.Reply) && s.from(next) {
			return true
		}
	}
	s.failed[now] = 1
	return false
}

// effect is what an operation does to a key.
func effect(s state, x api.Op) (state, api.Reply) {
	was := api.Reply{Code: api.RNone}
	if s.there {
		was = api.Reply{Code: api.RDone, Value: s.value}
	}
	switch {
	case x.Kind == api.OpGet:
		return s, was
	case x.Kind == api.OpPut:
		return state{s.done, true, x.Value}, api.Reply{Code: api.RDone}
	case !s.there:
		return s, was
	case x.Kind == api.OpDelete:
		return state{s.done, false, ""}, api.Reply{Code: api.RDone}
	case s.value != x.Old:
		return s, api.Reply{Code: api.ROther, Value: s.value}
	}
	return state{s.done, true, x.Value}, api.Reply{Code: api.RDone}
}

// ready lets a quorum of nodes, or more, be up and linked, and the others be down.
func (p *play) ready() []int {
	ids := p.r.Perm(p.o.Nodes)[:p.o.Nodes/2+1+p.r.IntN(p.o.Nodes-p.o.Nodes/2)]
	var up []int
	for id := 1; id <= p.o.Nodes; id++ {
		for other := 1; other < id; other++ {
			p.do(link(id, other))
		}
		v, ok := p.w.View(id)
		if !slices.Contains(ids, id-1) {
			p.do(crash(id, p.r.IntN(50)))
			continue
		}
		up = append(up, id)
		p.do(arm(id, 0))
		if !ok || v.Stopped {
			p.do(crash(id, p.r.IntN(50)))
			if x := p.do(start(id, 0)); !x.Did {
				p.t.Fatalf("node %d isn't started: %s", id, shownAll(x))
			}
		}
	}
	return up
}

// newest is the one of these nodes whose log is no older than the others', and how many entries the longest one has.
func (p *play) newest(ids []int) (best, longest int) {
	var top spot
	for _, id := range ids {
		base, term, entries := p.w.Log(id)
		at := spot{base + len(entries), term}
		if len(entries) > 0 {
			at.term = entries[len(entries)-1].Term
		}
		if best == 0 || at.term > top.term || at.term == top.term && at.index > top.index {
			best, top = id, at
		}
		longest = max(longest, len(entries))
	}
	return best, longest
}

// calms lets calm rounds pass, any number of them.
func (p *play) calms(quick, rounds int) {
	for ; rounds > 200; rounds -= 200 {
		p.do(calm(quick, 200))
	}
	p.do(calm(quick, rounds))
}

// It goes on: behind anything that happened a quorum of nodes finds a leader, and a read is answered.
func TestP0_15_ItGoesOn(t *testing.T) {
	for seed := range uint64(150) {
		p := newPlay(t, 40000+seed)
		p.o.Node.Every = 1 + p.r.IntN(9)
		p.o.Node.Inbox, p.o.Node.Out = 4*p.o.Nodes+p.r.IntN(5), 4*p.o.Nodes+p.r.IntN(5)
		p.w = with(t, p.o)
		for range p.r.IntN(600) {
			p.do(p.next())
		}
		ids := p.ready()
		// Mail that is on its way may make a log newer: it comes ahead of the rounds that count.
		p.do(calm(ids[0], 1))
		quick, _ := p.newest(ids)
		p.calms(quick, 20*p.o.Node.Core.Election)
		leader := p.w.Leader()
		for _, id := range ids {
			if leader == 0 || view(t, p.w, id).Core.Term > view(t, p.w, leader).Core.Term {
				t.Fatalf("seed %d: %d leads", seed, leader)
			}
		}
		_, longest := p.newest(ids)
		p.calms(quick, p.o.Node.Core.Beat*(2*longest+20))
		p.do(give(1))
		all(t, p.w, get(1, leader, "a"), calm(quick, 1))
		l := p.w.History()
		x := l[len(l)-1]
		if p.w.Leader() != leader || x.Back != p.w.Now() || x.Reply.Code != api.RDone && x.Reply.Code != api.RNone {
			t.Fatalf("seed %d: %d leads, it was %d; %s", seed, p.w.Leader(), leader, op(x))
		}
		is(t, x.Reply, p.w.Get(leader, "a"))
	}
}
