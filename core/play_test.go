package core_test

import (
	"bytes"
	"math/rand/v2"
	"slices"
	"strings"
	"testing"

	"synod/api"
	"synod/codec"
	"synod/core"
	"synod/raftlog"
)

// duo is a core and its model, to which the same is done; what they answer is held against each other.
type duo struct {
	t        *testing.T
	c        *core.Core
	m        *model
	calls    map[string]int // how often there was an answer of a kind
	log      []string
	scribble bool // all that is handed in, or was answered, is written over
	applying int  // the last index that was told to be applied, or stood for by a snapshot
	was      raftlog.Marks
}

func newDuo(t *testing.T, calls map[string]int, o core.Opts, s api.State, snap api.Snap, entries []api.Entry, draw int) *duo {
	t.Helper()
	c, e := core.New(o, s, snap, entries, draw)
	if e != api.OK {
		t.Fatalf("New(%v, %v, %s, %s): %d", o, s, shownSnap(snap), shown(entries), e)
	}
	d := &duo{t: t, c: c, m: newModel(o, s, snap, entries, draw), calls: calls, applying: snap.Index}
	d.was = c.Marks()
	d.log = []string{say("New", o, s, shownSnap(snap), shown(entries), draw)}
	d.alike()
	return d
}

// answer holds a call's answer against the model's.
func (d *duo) answer(call, kind string, have, want string) {
	d.t.Helper()
	d.calls[kind]++
	d.log = append(d.log, call)
	if have != want {
		d.t.Fatalf("%s\n%s\nhave %s\nwant %s", d.story(), call, have, want)
	}
	d.alike()
}

func (d *duo) story() string { return strings.Join(d.log[max(0, len(d.log)-40):], "\n") }

// facts are a core's, but its entries.
type facts struct {
	status     core.Status
	marks      raftlog.Marks
	base, term int
	match      [9]int
}

func sameEntry(a, b api.Entry) bool {
	return a.Term == b.Term && a.Index == b.Index && a.Kind == b.Kind && bytes.Equal(a.Data, b.Data)
}

// alike holds all that is told without a change against the model, and the order of the marks.
func (d *duo) alike() {
	d.t.Helper()
	var have, want facts
	base, term, entries := d.c.Log()
	have = facts{status: d.c.Status(), marks: d.c.Marks(), base: base, term: term}
	want = d.m.facts()
	for id := range have.match {
		have.match[id] = d.c.Match(id)
	}
	all, _ := d.m.log.Entries(want.base+1, d.m.log.Len())
	if have != want || !slices.EqualFunc(entries, all, sameEntry) {
		d.t.Fatalf("%s\nhave %s\nwant %s", d.story(), whole(d.c), d.m.whole())
	}
	k, last := have.marks, have.status.Last
	for _, n := range []int{k.Handed, k.Stable, k.Committed, k.Applying, k.Applied} {
		if n < base || n > last {
			d.t.Fatalf("%s\na mark of %v is out of %d to %d", d.story(), k, base, last)
		}
	}
	if k.Stable > k.Handed || k.Applied > k.Applying || k.Applying > k.Committed || k.Applying > k.Stable ||
		k.Committed < d.was.Committed || k.Applying < d.was.Applying || k.Applied < d.was.Applied {
		d.t.Fatalf("%s\nthe marks are %v, behind %v", d.story(), k, d.was)
	}
	d.was = k
}

func (m *model) facts() facts {
	marks := m.log.Marks()
	role := map[string]int{"candidate": api.Candidate, "leader": api.Leader}[m.role]
	f := facts{marks: marks, status: core.Status{Term: m.term, Vote: m.vote, Role: role, Lead: m.lead, Elapsed: m.elapsed, Timeout: m.timeout,
		Commit: marks.Committed, Applied: marks.Applied, Last: m.lastIndex()}}
	f.base, f.term = m.log.Base()
	for id, p := range m.node {
		f.match[id] = p.Match()
	}
	return f
}

func (d *duo) tick(draw int) {
	d.t.Helper()
	was := d.m.role
	d.c.Tick(draw)
	d.m.tick(draw)
	d.answer(say("Tick", draw), say("Tick", was), "", "")
}

func (d *duo) step(m api.Message) {
	d.t.Helper()
	want, was := api.OK, d.m.role
	if (codec.Messages{}).Check(m) != api.OK || m.To != d.m.o.ID || m.From > d.m.o.Nodes {
		want = api.ErrMessage
	}
	call, given := say("Step", m), m
	if d.scribble {
		given.Entries, given.Snap.Data = roomyEntries(m.Entries), roomyBytes(m.Snap.Data)
	}
	have := d.c.Step(given)
	if d.scribble {
		overEntries(given.Entries)
		overBytes(given.Snap.Data)
	}
	if want == api.OK {
		call = "Step " + shownMessage(m)
		d.m.step(m)
	}
	d.answer(call, say("Step", want, was, m.Kind), say(have), say(want))
	if was != d.m.role {
		d.calls[say(was, "to", d.m.role)]++
	}
}

// roomyBytes are the same in a list with spare room, in which others lie that belong to nobody.
func roomyBytes(b []byte) []byte {
	return append(append(make([]byte, 0, len(b)+9), b...), "roomyroom"...)[:len(b)]
}

func roomyEntries(l []api.Entry) []api.Entry {
	r := make([]api.Entry, 0, len(l)+2)
	for _, x := range l {
		x.Data = roomyBytes(x.Data)
		r = append(r, x)
	}
	return append(r, command(7, 7, "room"), command(8, 8, "room"))[:len(l)]
}

func (d *duo) propose(data []byte) (int, int, bool) {
	d.t.Helper()
	given := data
	if d.scribble {
		given = roomyBytes(data)
	}
	i, u, e := d.c.Propose(given)
	if d.scribble {
		overBytes(given)
	}
	a, b, want := d.m.propose(data)
	d.answer(say("Propose", len(data)), say("Propose", want), say(i, u, e), say(a, b, want))
	return i, u, e == api.OK
}

func (d *duo) read(id int) bool {
	d.t.Helper()
	e, want := d.c.Read(id), d.m.read(id)
	d.answer(say("Read", id), say("Read", want), say(e), say(want))
	return e == api.OK
}

func (d *duo) ready() (core.Work, bool) {
	d.t.Helper()
	w, ok := d.c.Ready()
	x, want := d.m.ready()
	d.answer("Ready "+shownWork(x), say("Ready", want), say(ok, shownWork(w)), say(want, shownWork(x)))
	if w.Snap.Index > 0 {
		d.calls["Ready of a snap"]++
		d.applying = w.Snap.Index
	}
	for _, x := range w.Apply {
		if x.Index != d.applying+1 {
			d.t.Fatalf("%s\n%d is to be applied behind %d", d.story(), x.Index, d.applying)
		}
		d.applying = x.Index
	}
	for name, n := range map[string]int{"entries": len(w.Entries), "now": len(w.Now), "after": len(w.After), "apply": len(w.Apply), "reads": len(w.Reads), "dropped": len(w.Dropped)} {
		d.calls["Ready of "+name] += min(1, n)
	}
	for _, m := range w.Now {
		d.calls[say("now", m.Kind, min(2, len(m.Entries)))]++
	}
	if d.scribble {
		overWork(&w)
	}
	return w, ok
}

func (d *duo) synced(number int) {
	d.t.Helper()
	e, want := d.c.Synced(number), d.m.synced(number)
	d.answer(say("Synced", number), say("Synced", want), say(e), say(want))
}

func (d *duo) applied(index int) bool {
	d.t.Helper()
	ok, want := d.c.Applied(index), d.m.log.Applied(index)
	d.answer(say("Applied", index), say("Applied", want), say(ok), say(want))
	return ok
}

func (d *duo) compact(s api.Snap, keep int) bool {
	d.t.Helper()
	given := s
	if d.scribble {
		given.Data = roomyBytes(s.Data)
	}
	e := d.c.Compact(given, keep)
	if d.scribble {
		overBytes(given.Data)
	}
	want := d.m.compact(s, keep)
	d.answer(say("Compact", s.Index, s.Term, keep), say("Compact", want), say(e), say(want))
	return e == api.OK
}

// player makes calls of any kind on a duo, and steps messages of any kind.
type player struct {
	*duo
	r     *rand.Rand
	calls map[string]int
	eager bool // it is let alone by other leaders, so that it leads soon, and goes on to
}

func newPlayer(seed uint64) *player {
	return &player{r: rand.New(rand.NewPCG(seed, 10)), calls: map[string]int{}}
}

// begin makes a core of some kind.
func (p *player) begin(t *testing.T, scribble bool) {
	t.Helper()
	r := p.r
	nodes := []int{1, 2, 3, 3, 3, 4, 5, 7}[r.IntN(8)]
	o := core.Opts{ID: 1 + r.IntN(nodes), Nodes: nodes, Election: 2 + r.IntN(4), Batch: 1 + r.IntN(4), Window: 1 + r.IntN(4), Reads: 1 + r.IntN(4), Pending: 1 + r.IntN(20)}
	o.Beat = 1 + r.IntN(o.Election-1)
	s, snap := api.State{Term: r.IntN(5)}, api.Snap{}
	if s.Term > 0 {
		s.Vote = r.IntN(nodes + 1)
	}
	if s.Term > 0 && r.IntN(2) == 0 {
		snap = api.Snap{Index: 1 + r.IntN(9), Term: 1 + r.IntN(s.Term), Data: p.data()}
	}
	switch r.IntN(20) {
	case 0:
		s.Term = top - r.IntN(4)
	case 1:
		s.Term = max(1, s.Term)
		snap = api.Snap{Index: top - r.IntN(6), Term: 1 + r.IntN(s.Term), Data: p.data()}
	}
	var entries []api.Entry
	term := snap.Term
	for i := snap.Index + 1; i <= top && s.Term > 0 && r.IntN(6) > 0; i++ {
		term = min(s.Term, max(1, term+r.IntN(2)*r.IntN(2)))
		entries = append(entries, api.Entry{Term: term, Index: i, Kind: api.ECommand, Data: p.data()})
	}
	s.Commit = snap.Index + r.IntN(len(entries)+2)
	if s.Commit > top {
		s.Commit = top
	}
	p.duo = newDuo(t, p.calls, o, s, snap, entries, r.IntN(9)-1)
	p.scribble, p.eager = scribble, r.IntN(3) > 0
}

func (p *player) data() []byte { return []byte(say("d", p.r.IntN(1000)))[:p.r.IntN(4)] }

// near is a number by one that the core knows; now and then any.
func (p *player) near(l ...int) int {
	n := l[p.r.IntN(len(l))] + p.r.IntN(3)*p.r.IntN(2) - p.r.IntN(2)*p.r.IntN(2)
	if p.r.IntN(60) == 0 {
		n = []int{0, 1, top - 1, top, p.r.IntN(30)}[p.r.IntN(5)]
	}
	return max(0, min(top, n))
}

func (p *player) index() int {
	k, base := p.m.log.Marks(), p.m.newest.Index
	return p.near(p.m.lastIndex(), p.m.lastIndex(), k.Committed, k.Stable, k.Applied, base)
}

// message is one of any kind that codec takes, mostly of the core's term.
func (p *player) message() api.Message {
	r, m := p.r, p.m
	kinds := map[string][]int{
		"follower":  {api.MVote, api.MApp, api.MApp, api.MApp, api.MBeat, api.MSnap},
		"candidate": {api.MVoteAns, api.MVoteAns, api.MVoteAns, api.MVoteAns, api.MApp},
		"leader":    {api.MAppAns, api.MAppAns, api.MAppAns, api.MBeatAns, api.MBeatAns},
	}[m.role]
	x := api.Message{Kind: kinds[r.IntN(len(kinds))], From: 1 + r.IntN(m.o.Nodes), To: m.o.ID, Term: m.term}
	if p.eager && m.role == "follower" {
		x.Kind = api.MVote
	}
	if r.IntN(6) == 0 {
		x.Kind = 1 + r.IntN(7)
	}
	if x.From == x.To {
		x.From = x.From%max(2, m.o.Nodes) + 1
	}
	switch r.IntN(40) {
	case 0, 1:
		x.Term += 1 + r.IntN(2)
	case 2, 3, 4:
		x.Term -= 1 + r.IntN(2)
	}
	x.Term = max(1, min(top, x.Term))
	p.fill(&x)
	return x
}

// fill lays into a message what its kind uses.
func (p *player) fill(x *api.Message) {
	r, m := p.r, p.m
	switch x.Kind {
	case api.MVote:
		x.Index, x.LogTerm = p.place(x.Term - 1)
	case api.MVoteAns:
		x.Reject = r.IntN(3) == 0
	case api.MApp:
		x.Index, x.LogTerm = p.place(x.Term)
		x.Commit = p.index()
		x.Entries = p.behind(x.Index, x.LogTerm, x.Term)
	case api.MAppAns:
		x.Index = p.index()
		if n := m.node[x.From]; n != nil && r.IntN(3) > 0 {
			x.Index = p.near(n.Match(), n.Next()-1, n.Next()-1, m.lastIndex())
		}
		if r.IntN(3) == 0 {
			x.Reject, x.Hint = true, p.index()
			if n := m.node[x.From]; n != nil && r.IntN(2) == 0 {
				x.Index = n.Next() - 1
				x.Hint = r.IntN(4)
			}
		}
	case api.MBeat:
		x.Commit, x.Ctx = p.index(), r.IntN(5)
	case api.MBeatAns:
		x.Ctx = p.near(m.readNumber, m.readNumber-1, 0)
	case api.MSnap:
		x.Snap = api.Snap{Index: max(1, p.index()), Data: p.data()}
		term, e := m.log.Term(x.Snap.Index)
		if e != api.OK || term > x.Term || term == 0 || r.IntN(4) == 0 {
			term = 1 + r.IntN(min(5, x.Term))
		}
		x.Snap.Term = term
	}
}

// place is an index and its term, at most so much; mostly one that the log has.
func (p *player) place(most int) (int, int) {
	index := p.index()
	term, e := p.m.log.Term(index)
	if e != api.OK || p.r.IntN(6) == 0 {
		term += p.r.IntN(3)
	}
	term = min(term, most)
	if index == 0 || term <= 0 {
		return 0, 0
	}
	return index, term
}

// behind is entries that may stand in a message of that term behind a place: those of the log at first, it may be.
func (p *player) behind(index, term, most int) []api.Entry {
	var l []api.Entry
	there := p.r.IntN(5)
	for i := range p.r.IntN(5) {
		at := index + 1 + i
		if at > top {
			break
		}
		x := api.Entry{Index: at, Term: min(most, max(1, term)+p.r.IntN(2)*p.r.IntN(3)), Kind: api.ECommand, Data: p.data()}
		have, e := p.m.log.Entries(at, 1)
		if i < there && e == api.OK && len(have) == 1 && have[0].Term >= term && have[0].Term <= most {
			x = have[0]
		}
		term = x.Term
		l = append(l, x)
	}
	return l
}

// wrong is a message with something in it that is mostly not to be.
func (p *player) wrong() api.Message {
	x := p.message()
	n := append(far(), 0, 1, 2, 8)[p.r.IntN(13)]
	field := []*int{&x.Kind, &x.From, &x.To, &x.Term, &x.Index, &x.LogTerm, &x.Commit, &x.Hint, &x.Ctx}[p.r.IntN(9)]
	*field = n
	return x
}

// play makes a call of any kind.
func (p *player) play() {
	p.t.Helper()
	r, m := p.r, p.m
	switch k := r.IntN(100); {
	case k < 45:
		p.step(p.message())
	case k < 47:
		p.step(p.wrong())
	case k < 60:
		p.tick(r.IntN(6) - 1)
		for range p.m.timeout {
			if p.eager && p.m.role == "follower" {
				p.tick(r.IntN(6) - 1)
			}
		}
	case k < 68:
		p.propose(p.data())
	case k < 74:
		p.read(r.IntN(99) - 9)
	case k < 84:
		p.ready()
	case k < 92:
		p.synced(p.near(m.syncedNumber+1, m.handedNumber, m.handedNumber))
	case k < 96:
		p.applied(p.near(m.log.Marks().Applied+1, m.log.Marks().Applying))
	default:
		p.compactAny()
	}
}

func (p *player) compactAny() {
	s := api.Snap{Index: p.near(p.m.log.Marks().Applied, p.m.newest.Index+1), Data: p.data()}
	s.Term, _ = p.m.log.Term(s.Index)
	keep := p.r.IntN(4)
	switch p.r.IntN(20) {
	case 0:
		s.Term += p.r.IntN(3) - 1
	case 1:
		keep = append(far(), api.MaxLog, api.MaxLog+1)[p.r.IntN(11)]
	}
	p.compact(s, keep)
}

func TestP10_3_Model(t *testing.T) {
	t.Parallel()
	p := newPlayer(1)
	for range 3000 {
		p.begin(t, false)
		for range 200 {
			p.play()
		}
	}
	p.enough(t, 100)
}

// enough tells of kinds of answers that the plays had too seldom.
func (p *player) enough(t *testing.T, least int) {
	t.Helper()
	kinds := []string{"Tick follower", "Tick candidate", "Tick leader", "candidate to leader", "candidate to follower", "leader to follower",
		say("Step", api.ErrMessage, "follower", 3), "Propose 0", say("Propose", api.ErrLead), say("Propose", api.ErrFull), say("Propose", api.ErrLimit),
		"Read 0", say("Read", api.ErrLead), say("Read", api.ErrEarly), say("Read", api.ErrFull), "Ready true", "Ready false",
		"Synced 0", say("Synced", api.ErrRange), "Applied true", "Applied false", "Compact 0", say("Compact", api.ErrRange), say("Compact", api.ErrForm),
		"Ready of a snap", "Ready of entries", "Ready of now", "Ready of after", "Ready of apply", "Ready of reads", "Ready of dropped",
		say("now", api.MApp, 0), say("now", api.MApp, 1), say("now", api.MApp, 2), say("now", api.MBeat, 0), say("now", api.MSnap, 0)}
	for _, role := range []string{"follower", "candidate", "leader"} {
		for kind := 1; kind <= 7; kind++ {
			kinds = append(kinds, say("Step", 0, role, kind))
		}
	}
	for _, k := range kinds {
		if p.calls[k] < least {
			t.Errorf("%s: %d times alone", k, p.calls[k])
		}
	}
}
