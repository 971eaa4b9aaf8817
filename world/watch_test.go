package world_test

import (
	"fmt"
	"slices"
	"strings"
	"testing"

	"synod/api"
	"synod/codec"
	"synod/disk"
	"synod/frame"
	"synod/kv"
	"synod/net"
	"synod/node"
	"synod/run"
	"synod/snap"
	"synod/wal"
	"synod/world"
)

// watch looks at a world behind each act: whether what DOC.md asks of every world, P0.8 to P0.14, holds.
type watch struct {
	*play
	only    string // the promise that is asked for; empty: all of them
	counts  map[string]int
	leaders map[int]int         // by term
	votes   map[[2]int]int      // by node and term: whom it was sent for
	seats   []seat              // by node
	entries map[spot]string     // with the term of the one ahead
	commits map[int]known       // by index
	applies map[int]string      // by index
	stores  map[int]string      // by the index up to which a store has all
	models  []map[string]string // by the same: what the keys are, if each Seq has effect once
	seqs    map[int]int         // the last ones of the clients there
	acks    []ack
	said    []api.Message        // the last one, by node, that leaned on its disk
	acked   map[[2]int]int       // by node and term: the index up to which it has told that it has all
	mails   int                  // how many were looked at
	lives   []*life              // by node
	calls   []api.Command        // by their IDs less 1
	answers map[[2]int]api.Reply // of the store, by client and Seq
}

// spot is an index and a term.
type spot struct{ index, term int }

// known is what is known of a committed entry: its text, and the least term of a node that knew it.
type known struct {
	api.Entry
	text string
	term int
}

// seat is a node's term, and its vote in it, since it was started.
type seat struct{ term, vote int }

// ack is that a client was told that its Seq was done, by a node of this term.
type ack struct{ client, seq, term int }

// life is what was done to a node since it was started.
type life struct {
	files []api.File
	draw  int
	acts  []node.Act
	told  []world.Told
	armed bool       // its disk: then it can't be played again
	over  bool       // it has crashed
	left  []api.File // what there was then
}

// newWatch watches a world of these options; asked for promises but one it says nothing of those.
func newWatch(p *play, only string, counts map[string]int) *watch {
	w := &watch{play: p, only: only, counts: counts, leaders: map[int]int{}, votes: map[[2]int]int{}, entries: map[spot]string{},
		commits: map[int]known{}, applies: map[int]string{}, stores: map[int]string{}, models: []map[string]string{{}}, seqs: map[int]int{},
		acked: map[[2]int]int{}, answers: map[[2]int]api.Reply{}, said: make([]api.Message, 8), seats: make([]seat, 8)}
	for range 8 {
		w.lives = append(w.lives, &life{})
	}
	return w
}

// fail tells what was wrong, and the acts that led there.
func (w *watch) fail(promise, form string, l ...any) {
	w.t.Helper()
	if w.only == "" || w.only == promise {
		w.t.Fatalf("%s: %s\nbehind %d acts of %v, the last ones %v", promise, fmt.Sprintf(form, l...), len(w.acts), w.o, w.acts[max(0, len(w.acts)-30):])
	}
}

// step does an act, and looks at all there is; a calm round is done by hand, so that all is seen.
func (w *watch) step(a world.Act) world.Told {
	if a.Kind == world.WCalm && a.N <= 200 {
		for range a.N {
			byHand(w.w, w.o, a.Node, w.step)
		}
		return world.Told{Did: true}
	}
	mail, files := w.w.Mail(), w.w.Files(a.Node)
	told := w.do(a)
	count(w.counts, a, told)
	w.live(a, mail, files, told)
	if !told.Did {
		return told
	}
	if a.Kind == world.WStart {
		w.started(a.Node)
	}
	w.letters()
	for id := 1; id <= w.o.Nodes; id++ {
		w.leads(id)
		w.log(id)
		w.store(id)
	}
	for _, e := range told.Events {
		w.event(e)
	}
	return told
}

// started looks at a node that was started.
func (w *watch) started(id int) {
	w.seats[id] = seat{}
	w.recovered(id)
	if w.o.Nodes == 1 {
		// One that is alone leads ahead of any sync: what wasn't synced nobody else has, and it may lead in the same term again.
		clear(w.entries)
	}
}

// letters looks at new mail: what a node has said of its vote it doesn't take back.
func (w *watch) letters() {
	for _, x := range w.w.Mail() {
		if x.Number <= w.mails || x.Spoilt {
			continue
		}
		w.mails = max(w.mails, x.Number)
		m, ok := letter(x.Data)
		if !ok || m.From != x.From || m.To != x.To {
			w.t.Fatalf("%v is %v", x, m)
		}
		switch m.Kind {
		case api.MVote:
			w.vote(m, m.From)
		case api.MVoteAns:
			if !m.Reject {
				w.vote(m, m.To)
			}
		case api.MAppAns:
			if at := [2]int{m.From, m.Term}; !m.Reject {
				w.acked[at] = max(w.acked[at], m.Index)
			}
		}
		if m.Kind != api.MApp && m.Kind != api.MBeat && m.Kind != api.MSnap && m.Term >= w.said[m.From].Term {
			w.said[m.From] = m
		}
	}
}

func (w *watch) vote(m api.Message, whom int) {
	at := [2]int{m.From, m.Term}
	if was, ok := w.votes[at]; ok && was != whom {
		w.fail("P0.8", "%d votes for %d and %d in term %d", m.From, was, whom, m.Term)
	}
	w.votes[at] = whom
	w.counts["vote"]++
}

// leads looks at a node's term and vote, and at a leader: it is the only one of its term, and has all that was committed
// ahead of it, and all that a client was told of then.
func (w *watch) leads(id int) {
	v, up := w.w.View(id)
	if !up {
		return
	}
	now, was := seat{v.Core.Term, v.Core.Vote}, w.seats[id]
	if now.term < was.term || now.term == was.term && was.vote != 0 && now.vote != was.vote {
		w.fail("P0.8", "%d was in term %d and voted for %d, and then in term %d for %d", id, was.term, was.vote, now.term, now.vote)
	}
	w.seats[id] = now
	if v.Core.Role != api.Leader {
		return
	}
	if was, ok := w.leaders[v.Core.Term]; ok && was != id {
		w.fail("P0.8", "%d and %d lead in term %d", was, id, v.Core.Term)
	} else if !ok {
		w.counts["leader"]++
	}
	w.leaders[v.Core.Term] = id
	base, _, entries := w.w.Log(id)
	for index, k := range w.commits {
		if k.term >= v.Core.Term || index <= base {
			continue
		}
		if index > base+len(entries) || say(entries[index-base-1]) != k.text {
			w.fail("P0.9", "%d was committed in term %d; the leader %d of term %d has %v", index, k.term, id, v.Core.Term, entries)
		}
	}
	w.keeps(id, v.Core.Term, entries)
}

// keeps looks for all that a client was told of in an earlier term, in a leader's log and in its newest snapshot.
func (w *watch) keeps(id, term int, entries []api.Entry) {
	there := map[[2]int]int{}
	for _, e := range entries {
		if c, err := (codec.Commands{}).Get(e.Data); err == api.OK {
			there[[2]int{c.Client, c.Seq}]++
		}
	}
	var sessions map[int]int
	for _, x := range w.acks {
		if x.term >= term || there[[2]int{x.client, x.seq}] > 0 {
			continue
		}
		if sessions == nil {
			sessions = w.sessions(id)
		}
		if sessions[x.client] < x.seq {
			w.fail("P0.10", "client %d was told of %d in term %d; the leader %d of term %d has %v, and %v in its snapshot", x.client, x.seq, x.term, id, term, entries, sessions)
		}
		w.counts["kept in a snapshot"]++
	}
	w.counts["kept"] += len(w.acks)
}

// sessions are the last Seqs of the clients in a node's newest snapshot.
func (w *watch) sessions(id int) map[int]int {
	seqs := map[int]int{}
	d, _ := disk.Load(w.w.Files(id))
	s, _, err := snap.Load(d)
	if err != api.OK {
		return seqs
	}
	store, err := kv.Restore(s.Data)
	if err != api.OK {
		w.t.Fatalf("the snapshot of node %d: %d", id, err)
	}
	for _, x := range store.Sessions() {
		seqs[x.Client] = x.Seq
	}
	return seqs
}

// log looks at a node's log: entries of one index and term are the same everywhere, and so are those ahead.
func (w *watch) log(id int) {
	v, up := w.w.View(id)
	if !up {
		return
	}
	_, ahead, entries := w.w.Log(id)
	for _, e := range entries {
		text := say(ahead, e)
		at := spot{e.Index, e.Term}
		if was, ok := w.entries[at]; ok && was != text {
			w.fail("P0.9", "%d of term %d is %s and %s", e.Index, e.Term, was, text)
		}
		w.entries[at] = text
		ahead = e.Term
		if e.Index > v.Core.Commit {
			continue
		}
		if was, ok := w.commits[e.Index]; ok && was.text != say(e) {
			w.fail("P0.9", "committed at %d is %s and %s", e.Index, was.text, say(e))
		} else if !ok || was.term > v.Core.Term {
			w.commits[e.Index] = known{e, say(e), v.Core.Term}
			w.counts["commit"]++
		}
	}
}

// store looks at a store: it is what every one is that has all up to the same index, and what is there if each Seq has
// effect once.
func (w *watch) store(id int) {
	v, _ := w.w.View(id)
	have := say(w.w.Get(id, "a"), w.w.Get(id, "b"), w.w.Get(id, "c"))
	if was, ok := w.stores[v.Stored]; ok && was != have {
		w.fail("P0.9", "stored at %d is %s and %s", v.Stored, was, have)
	}
	w.stores[v.Stored] = have
	for index := len(w.models); index <= v.Stored; index++ {
		w.models = append(w.models, w.behind(w.models[index-1], index))
	}
	var want []any
	for _, key := range []string{"a", "b", "c"} {
		r := api.Reply{Code: api.RNone}
		if value, ok := w.models[v.Stored][key]; ok {
			r = api.Reply{Code: api.RDone, Value: value}
		}
		want = append(want, r)
	}
	if have != say(want...) {
		w.fail("P0.12", "stored at %d is %s; each Seq once it is %s", v.Stored, have, say(want...))
	}
}

// behind is what the keys are behind the committed entry of an index, if each Seq has effect once.
func (w *watch) behind(keys map[string]string, index int) map[string]string {
	k, ok := w.commits[index]
	if !ok {
		w.fail("P0.9", "stored at %d, which nobody has committed", index)
	}
	c, err := (codec.Commands{}).Get(k.Data)
	if err != api.OK {
		return keys
	}
	if c.Seq <= w.seqs[c.Client] {
		w.counts["twice"]++
		return keys
	}
	w.seqs[c.Client] = c.Seq
	next := map[string]string{}
	for key, value := range keys {
		next[key] = value
	}
	value, there := keys[c.Key]
	switch {
	case c.Op == api.OpPut, c.Op == api.OpSwap && there && value == c.Old:
		next[c.Key] = c.Value
	case c.Op == api.OpDelete:
		delete(next, c.Key)
	}
	return next
}

// event looks at what was told: what is applied, and what a client hears.
func (w *watch) event(e world.Event) {
	switch e.Kind {
	case node.EApply:
		base, _, entries := w.w.Log(e.Node)
		if e.Number <= base {
			return
		}
		text := say(entries[e.Number-base-1])
		if was, ok := w.applies[e.Number]; ok && was != text {
			w.fail("P0.9", "applied at %d is %s and %s", e.Number, was, text)
		}
		w.applies[e.Number] = text
	case world.EBack:
		l := w.w.History()
		for _, x := range slices.Backward(l) {
			if x.Client == e.Client {
				if x.Seq > 0 && e.Reply.Code <= api.ROther {
					w.acks = append(w.acks, ack{x.Client, x.Seq, view(w.t, w.w, e.Node).Core.Term})
				}
				break
			}
		}
	}
}

// recovered looks at a node that was started: what it has said leans on nothing that it hasn't; and it has what was synced,
// and perhaps whole records of what was written behind that.
func (w *watch) recovered(id int) {
	v, _ := w.w.View(id)
	m := w.said[id]
	vote, voted := w.votes[[2]int{id, v.Core.Term}]
	if v.Core.Term < m.Term || voted && v.Core.Vote != vote {
		w.fail("P0.14", "node %d is in term %d and voted for %d; it said %v", id, v.Core.Term, v.Core.Vote, m)
	}
	if v.Core.Last < w.acked[[2]int{id, v.Core.Term}] {
		w.fail("P0.14", "node %d has all up to %d; in term %d it said %d", id, v.Core.Last, v.Core.Term, w.acked[[2]int{id, v.Core.Term}])
	}
	if v.Core.Term > 0 {
		w.counts["recovered"]++
	}
	l := w.survivors(id, w.lives[id].left)
	base, term, entries := w.w.Log(id)
	at := slices.Index(l, say(v.Core.Term, v.Core.Vote, v.Core.Commit, base, term, entries))
	if at < 0 {
		w.fail("P0.14", "node %d has %v, %v; it may have\n%s", id, v.Core, entries, strings.Join(l, "\n"))
	}
	if at > 0 {
		w.counts["recovered more"]++
	}
}

// survivors are what a node may have behind a crash, by the files that it had then: what was synced, with so many whole
// records behind it, rising.
func (w *watch) survivors(id int, files []api.File) []string {
	var l []string
	last := api.File{}
	for i, f := range files {
		if _, ok := wal.Number(f.Name); ok {
			last = f // the names rise
		}
		files[i].Data = f.Data[:f.Synced]
	}
	sizes := []int{last.Synced}
	end := 0
	for at, payload := range frame.Each(last.Data) {
		end = at + len(payload) + 8
		sizes = append(sizes, end)
	}
	for _, size := range sizes {
		if size < last.Synced {
			continue
		}
		for i := range files {
			if files[i].Name == last.Name {
				files[i].Data, files[i].Synced = last.Data[:size], size
			}
		}
		d, err := disk.Load(files)
		if err != api.OK {
			w.t.Fatalf("%v: %d", files, err)
		}
		n, err := node.Open(ofNode(w.o, id), d, 0)
		if err != api.OK {
			w.fail("P0.14", "node %d can't be opened with %d bytes of %s: %d", id, size, last.Name, err)
			continue
		}
		v := n.View().Core
		base, term, entries := n.Log()
		l = append(l, say(v.Term, v.Vote, v.Commit, base, term, entries))
	}
	return l
}

// live goes on with the life of the node that an act is for.
func (w *watch) live(a world.Act, mail []net.Mail, files []api.File, told world.Told) {
	if a.Kind == world.WCall || a.Kind == world.WAgain {
		if told.Err == api.OK {
			w.calls = append(w.calls, w.command(a.Client))
		}
	}
	var b node.Act
	id := a.Node
	switch a.Kind {
	case world.WTick:
		b = node.Act{Kind: node.ATick, N: a.N}
	case world.WPick:
		b = node.Act{Kind: node.APick, N: a.N}
	case world.WStop:
		b = node.Act{Kind: node.AStop}
	case world.WDeliver:
		if told.Err != api.OK {
			return
		}
		b = node.Act{Kind: node.ADeliver, Data: mail[a.N].Data}
		id = mail[a.N].To
	case world.WCall, world.WAgain:
		if told.Err != api.OK {
			return
		}
		b = node.Act{Kind: node.ACall, Call: node.Call{ID: len(w.calls), Command: w.calls[len(w.calls)-1]}}
	case world.WArm:
		if w.isNode(id) {
			w.lives[id].armed = true
		}
		return
	case world.WCrash:
		w.dies(id, files)
		return
	case world.WStart:
		if told.Did {
			w.begins(id, a.N, files)
		}
		return
	default:
		return
	}
	if told.Err == api.ErrNone {
		return
	}
	l := w.lives[id]
	l.acts = append(l.acts, b)
	l.told = append(l.told, told)
}

func (w *watch) isNode(id int) bool { return id >= 1 && id <= w.o.Nodes }

// dies ends a node's life; a second crash finds what the first one left.
func (w *watch) dies(id int, files []api.File) {
	if !w.isNode(id) {
		return
	}
	w.pure(id, files)
	if l := w.lives[id]; !l.over {
		w.lives[id] = &life{over: true, left: files}
	}
}

// begins begins a node's life; where it hasn't crashed, all that was written is there.
func (w *watch) begins(id, draw int, files []api.File) {
	w.pure(id, files)
	left := w.lives[id].left
	if !w.lives[id].over {
		left = slices.Clone(files)
		for i := range left {
			left[i].Synced = len(left[i].Data)
		}
	}
	w.lives[id] = &life{draw: draw, files: files, armed: w.lives[id].armed, left: left}
}

// command is that of the operation that a client has called last.
func (w *watch) command(client int) api.Command {
	l := w.w.History()
	for _, x := range slices.Backward(l) {
		if x.Client == client && x.Kind == api.OpGet {
			return api.Command{Op: x.Kind, Key: x.Key}
		} else if x.Client == client {
			return api.Command{Op: x.Kind, Client: x.Client, Seq: x.Seq, Key: x.Key, Value: x.Value, Old: x.Old}
		}
	}
	return api.Command{}
}

// pure plays a node's life again, by goroutines: it tells the same, and leaves the same files.
func (w *watch) pure(id int, files []api.File) {
	l := w.lives[id]
	if l.armed || l.over || len(l.acts) == 0 {
		return
	}
	told, left, e := run.Play(ofNode(w.o, id), l.files, l.draw, l.acts)
	if e != api.OK || len(told) != len(l.told) {
		w.t.Fatalf("node %d: %d", id, e)
	}
	for i, x := range told {
		var have, want []string
		for _, e := range x.Events {
			if e.Kind == node.EReply {
				w.once(w.calls[e.Number-1], e.Reply)
				continue
			}
			want = append(want, say(e.Kind, e.Number))
		}
		for _, e := range l.told[i].Events {
			if e.Kind != world.EBack {
				have = append(have, say(e.Kind, e.Number))
			}
		}
		// A call is done in a world also where it is refused; a stop also where it is one already; and where a node isn't up there is an error.
		did := x.Did == l.told[i].Did || l.acts[i].Kind == node.ACall || l.acts[i].Kind == node.AStop
		if say(have) != say(want) || !did {
			w.fail("P0.13", "node %d, %v: have %v %t, want %v %t", id, l.acts[i], have, l.told[i].Did, want, x.Did)
		}
	}
	if say(files) != say(left) {
		w.fail("P0.13", "node %d has the files %v; played again it has %v", id, files, left)
	}
	w.counts["life"]++
}

// once holds that a session's Seq gets one answer of the store, however often it was called; also where nobody waits for it.
func (w *watch) once(c api.Command, r api.Reply) {
	at := [2]int{c.Client, c.Seq}
	if c.Seq == 0 || r.Code > api.ROther {
		return
	}
	was, ok := w.answers[at]
	if ok && was != r {
		w.fail("P0.12", "%v got %v and %v", c, was, r)
	} else if ok {
		w.counts["again"]++
	}
	w.answers[at] = r
}

// linear holds that the history could have come from one map: key by key, if there are few enough operations of it.
func (w *watch) linear() {
	byKey := map[string][]api.Op{}
	for _, x := range w.w.History() {
		open := x.Back == 0
		if open && x.Kind != api.OpGet || !open && x.Reply.Code <= api.ROther {
			byKey[x.Key] = append(byKey[x.Key], x)
		}
	}
	for key, l := range byKey {
		if len(l) > 40 {
			continue
		}
		w.counts["linear"]++
		s := search{l, map[state]int{}}
		if !s.from(state{}) {
			w.fail("P0.11", "the key %s\n%s", key, ops(l))
		}
	}
}

// end looks at all that is looked at last.
func (w *watch) end() {
	for id := 1; id <= w.o.Nodes; id++ {
		w.pure(id, w.w.Files(id))
	}
	w.linear()
}

// watched lets worlds go on for a while, and looks at them for a promise; what happened in them.
func watched(t *testing.T, promise string, first, worlds uint64, acts int, tune func(p *play)) map[string]int {
	t.Helper()
	counts := map[string]int{}
	for seed := first; seed < first+worlds; seed++ {
		p := newPlay(t, seed)
		p.wrong = 0
		tune(p)
		w := newWatch(p, promise, counts)
		for range acts {
			w.step(w.next())
		}
		w.end()
	}
	return counts
}
