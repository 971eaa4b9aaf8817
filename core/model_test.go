package core_test

import (
	"slices"

	"synod/api"
	"synod/core"
	"synod/raftlog"
	"synod/track"
)

// The chapter once more, in other words: a core is its numbers, what it knows of each node, and what it has not told yet.
// Logs and progresses are those of the chapters below, which have tests of their own.
type model struct {
	o                          core.Opts
	term, vote, lead           int
	role                       string
	elapsed, timeout, ticks    int
	log                        *raftlog.Log
	newest                     api.Snap
	voted                      map[int]bool // of a candidate: who has said what
	node                       map[int]*track.Progress
	reads                      []*modelRead
	readNumber                 int
	out                        core.Work // what was not told yet
	told                       api.State
	ends                       map[int][2]int // of each work by its number: the log's end
	handedNumber, syncedNumber int
	restored                   api.Snap
}

type modelRead struct {
	id, index, number int
	by                map[int]bool
}

func newModel(o core.Opts, s api.State, snap api.Snap, entries []api.Entry, draw int) *model {
	l, e := raftlog.New(snap.Index, snap.Term, s.Commit, entries)
	if e != api.OK {
		panic(e)
	}
	m := &model{o: o, term: s.Term, vote: s.Vote, role: "follower", log: l, newest: cloneSnap(snap), ends: map[int][2]int{}}
	m.draw(draw)
	m.told = m.state()
	return m
}

func cloneSnap(s api.Snap) api.Snap {
	s.Data = slices.Clone(s.Data)
	return s
}

func (m *model) draw(n int) {
	switch {
	case n < 0:
		n = 0
	case n > 8*m.o.Election:
		n = 8 * m.o.Election
	}
	m.timeout = m.o.Election + n
}

func (m *model) state() api.State {
	return api.State{Term: m.term, Vote: m.vote, Commit: m.log.Marks().Committed}
}

func (m *model) lastIndex() int {
	i, _ := m.log.Last()
	return i
}

// each is called with each of the others, rising.
func (m *model) each(do func(id int)) {
	for id := range m.o.Nodes + 1 {
		if id != 0 && id != m.o.ID {
			do(id)
		}
	}
}

func (m *model) sendNow(x api.Message) {
	x.From, x.Term = m.o.ID, m.term
	m.out.Now = append(m.out.Now, x)
}

func (m *model) sendAfter(x api.Message) {
	x.From, x.Term = m.o.ID, m.term
	m.out.After = append(m.out.After, x)
}

func (m *model) tick(draw int) {
	if m.role == "leader" {
		if m.ticks++; m.ticks == m.o.Beat {
			m.beats()
		}
		return
	}
	if m.elapsed == 0 {
		m.draw(draw)
	}
	if m.elapsed++; m.elapsed < m.timeout {
		return
	}
	m.elapsed = 0
	if m.term == api.MaxIndex {
		return
	}
	m.role, m.term, m.vote, m.lead = "candidate", m.term+1, m.o.ID, 0
	m.voted = map[int]bool{m.o.ID: true}
	if m.o.Nodes == 1 {
		m.begin()
		return
	}
	i, u := m.log.Last()
	m.each(func(id int) { m.sendAfter(api.Message{Kind: api.MVote, To: id, Index: i, LogTerm: u}) })
}

// begin is P10.7.
func (m *model) begin() {
	m.role = "follower"
	if m.lastIndex() == api.MaxIndex || m.log.Len() == api.MaxLog {
		return
	}
	m.role, m.lead, m.ticks = "leader", m.o.ID, 0
	m.node = map[int]*track.Progress{}
	m.each(func(id int) { m.node[id] = track.NewProgress(m.lastIndex()+1, m.o.Window) })
	m.log.Append(m.term, api.EEmpty, nil)
	m.each(m.entries)
}

// entries is P10.8.
func (m *model) entries(id int) {
	p := m.node[id]
	if !p.May() {
		return
	}
	from := p.Next()
	u, e := m.log.Term(from - 1)
	if e != api.OK {
		m.sendNow(api.Message{Kind: api.MSnap, To: id, Snap: cloneSnap(m.newest)})
		p.Snap(m.newest.Index)
		return
	}
	x := api.Message{Kind: api.MApp, To: id, Index: from - 1, LogTerm: u, Commit: m.log.Marks().Committed}
	for i := from; i <= m.lastIndex() && len(x.Entries) < m.o.Batch; i++ {
		one, _ := m.log.Entries(i, 1)
		x.Entries = append(x.Entries, one...)
	}
	m.sendNow(x)
	if n := len(x.Entries); n > 0 {
		p.Sent(x.Entries[n-1].Index)
	} else {
		p.Sent(from - 1)
	}
}

func (m *model) rest(id int) {
	for m.node[id].May() && m.node[id].Next() <= m.lastIndex() {
		m.entries(id)
	}
}

// beats is P10.9.
func (m *model) beats() {
	m.ticks = 0
	ctx := 0
	for _, r := range m.reads {
		ctx = r.number
	}
	m.each(func(id int) {
		commit := m.log.Marks().Committed
		if n := m.node[id].Match(); n < commit {
			commit = n
		}
		m.sendNow(api.Message{Kind: api.MBeat, To: id, Commit: commit, Ctx: ctx})
	})
}

// moves is P10.10: the greatest index that a quorum has, if it is of this term.
func (m *model) moves() bool {
	marks := m.log.Marks()
	for i := m.lastIndex(); i > marks.Committed; i-- {
		have := 0
		if marks.Stable >= i {
			have++
		}
		m.each(func(id int) {
			if m.node[id].Match() >= i {
				have++
			}
		})
		if 2*have > m.o.Nodes {
			return m.log.Has(i, m.term) && m.log.Commit(i)
		}
	}
	return false
}

func (m *model) step(x api.Message) {
	if x.Term > m.term {
		if m.role == "leader" {
			m.elapsed = 0
			for _, r := range m.reads {
				m.out.Dropped = append(m.out.Dropped, r.id)
			}
		}
		m.term, m.vote, m.role, m.lead, m.reads, m.node = x.Term, 0, "follower", 0, nil, nil
	}
	old := x.Term < m.term
	switch x.Kind {
	case api.MVote:
		yes := !old && (m.vote == 0 || m.vote == x.From) && m.log.Newer(x.Index, x.LogTerm)
		if yes {
			m.vote, m.elapsed = x.From, 0
		}
		m.sendAfter(api.Message{Kind: api.MVoteAns, To: x.From, Reject: !yes})
	case api.MVoteAns:
		if !old && m.role == "candidate" {
			m.count(x)
		}
	case api.MApp, api.MBeat, api.MSnap:
		switch {
		case old:
			m.sendAfter(api.Message{Kind: api.MAppAns, To: x.From, Reject: true})
		case m.role != "leader":
			m.role, m.lead, m.elapsed = "follower", x.From, 0
			m.obey(x)
		}
	default:
		if !old && m.role == "leader" {
			m.answered(x)
		}
	}
}

func (m *model) count(x api.Message) {
	if _, ok := m.voted[x.From]; !ok {
		m.voted[x.From] = !x.Reject
	}
	yes, no := 0, 0
	for _, v := range m.voted {
		if v {
			yes++
		} else {
			no++
		}
	}
	switch quorum := m.o.Nodes/2 + 1; {
	case yes >= quorum:
		m.begin()
	case no > m.o.Nodes-quorum:
		m.role = "follower"
	}
}

// obey is what a leader's message does to one that follows it.
func (m *model) obey(x api.Message) {
	a := api.Message{Kind: api.MAppAns, To: x.From, Index: m.log.Marks().Committed}
	switch {
	case x.Kind == api.MBeat:
		m.log.Commit(x.Commit)
		a = api.Message{Kind: api.MBeatAns, To: x.From, Ctx: x.Ctx}
	case x.Kind == api.MApp && x.Index >= a.Index:
		end, ok := m.log.Try(x.Index, x.LogTerm, x.Commit, x.Entries)
		a.Index = end
		if !ok {
			a.Index, a.Reject, a.Hint = x.Index, true, m.log.Hint(x.Index, x.LogTerm)
		}
	case x.Kind == api.MSnap && x.Snap.Index > a.Index:
		a.Index = x.Snap.Index
		if m.log.Has(x.Snap.Index, x.Snap.Term) {
			m.log.Commit(x.Snap.Index)
			break
		}
		m.log.Restore(x.Snap.Index, x.Snap.Term)
		m.newest = cloneSnap(x.Snap)
		m.restored = cloneSnap(x.Snap)
	}
	m.sendAfter(a)
}

// answered is what an answer does to a leader.
func (m *model) answered(x api.Message) {
	p := m.node[x.From]
	if x.Kind == api.MBeatAns {
		p.Beat()
		if p.Match() < m.lastIndex() {
			m.entries(x.From)
		}
		for _, r := range m.reads {
			if x.Ctx > 0 && r.number <= x.Ctx {
				r.by[x.From] = true
			}
		}
		for len(m.reads) > 0 && 2*len(m.reads[0].by) > m.o.Nodes {
			m.out.Reads = append(m.out.Reads, core.Read{ID: m.reads[0].id, Index: m.reads[0].index})
			m.reads = m.reads[1:]
		}
		return
	}
	if x.Index > m.lastIndex() {
		return
	}
	if x.Reject {
		if p.Rejected(x.Index, x.Hint) {
			m.entries(x.From)
		}
		return
	}
	p.Acked(x.Index)
	if m.moves() {
		m.each(m.entries)
	} else {
		m.rest(x.From)
	}
}

func (m *model) propose(data []byte) (int, int, api.Errno) {
	switch {
	case m.role != "leader":
		return 0, 0, api.ErrLead
	case len(data) > 4096:
		return 0, 0, api.ErrLong
	case m.lastIndex() == api.MaxIndex:
		return 0, 0, api.ErrLimit
	case m.lastIndex()-m.log.Marks().Committed >= m.o.Pending || m.log.Len() == 10000:
		return 0, 0, api.ErrFull
	}
	i, _ := m.log.Append(m.term, api.ECommand, data)
	m.each(m.rest)
	return i, m.term, api.OK
}

func (m *model) read(id int) api.Errno {
	at := m.log.Marks().Committed
	u, _ := m.log.Term(at)
	switch {
	case m.role != "leader":
		return api.ErrLead
	case u != m.term:
		return api.ErrEarly
	case len(m.reads) == m.o.Reads:
		return api.ErrFull
	case m.o.Nodes == 1:
		m.out.Reads = append(m.out.Reads, core.Read{ID: id, Index: at})
		return api.OK
	}
	m.readNumber++
	m.reads = append(m.reads, &modelRead{id, at, m.readNumber, map[int]bool{m.o.ID: true}})
	m.beats()
	return api.OK
}

func (m *model) ready() (core.Work, bool) {
	w := m.out
	m.out = core.Work{}
	if m.state() != m.told {
		m.told = m.state()
		w.HasState, w.State = true, m.told
	}
	w.Snap, m.restored = m.restored, api.Snap{}
	w.Entries, w.Apply = m.log.Hand(), m.log.Next(m.o.Batch)
	if w.HasState || w.Snap.Index > 0 || len(w.Entries)+len(w.After) > 0 {
		m.handedNumber++
		w.Number = m.handedNumber
		i, u := m.log.Last()
		m.ends[w.Number] = [2]int{i, u}
	}
	return w, w.Number > 0 || len(w.Now)+len(w.Apply)+len(w.Reads)+len(w.Dropped) > 0
}

func (m *model) synced(number int) api.Errno {
	if number <= m.syncedNumber || number > m.handedNumber {
		return api.ErrRange
	}
	for m.syncedNumber < number {
		m.syncedNumber++
		end := m.ends[m.syncedNumber]
		m.log.Stable(end[0], end[1])
	}
	if m.role == "leader" && m.moves() {
		m.each(m.entries)
	}
	return api.OK
}

func (m *model) compact(s api.Snap, keep int) api.Errno {
	u, _ := m.log.Term(s.Index)
	switch {
	case s.Index < 1 || s.Index > api.MaxIndex || s.Term < 1 || s.Term > api.MaxIndex:
		return api.ErrRange
	case len(s.Data) > 1<<19:
		return api.ErrLong
	case s.Index > m.log.Marks().Applied || s.Index <= m.newest.Index || keep < 0 || keep > 10000:
		return api.ErrRange
	case u != s.Term:
		return api.ErrForm
	}
	m.newest = cloneSnap(s)
	if base, _ := m.log.Base(); s.Index-keep > base {
		m.log.Compact(s.Index - keep)
	}
	return api.OK
}

func (m *model) whole() string {
	base, term := m.log.Base()
	entries, _ := m.log.Entries(base+1, m.log.Len())
	marks := m.log.Marks()
	role := map[string]int{"candidate": api.Candidate, "leader": api.Leader}[m.role]
	s := shownStatus(core.Status{Term: m.term, Vote: m.vote, Role: role, Lead: m.lead, Elapsed: m.elapsed, Timeout: m.timeout,
		Commit: marks.Committed, Applied: marks.Applied, Last: m.lastIndex()})
	s += say(";", base, term, ";", shown(entries), ";", marks, "; match")
	for id := -1; id < 10; id++ {
		n := 0
		if p := m.node[id]; p != nil {
			n = p.Match()
		}
		s += " " + say(n)
	}
	return s
}
