package core_test

import (
	"fmt"
	"hash/fnv"
	"math/rand/v2"
	"slices"
	"strings"
	"testing"

	"synod/api"
	"synod/core"
)

// platter is what of a site is durable.
type platter struct {
	state   api.State
	snap    api.Snap
	base    int
	entries []api.Entry
}

// write makes a work durable.
func (p *platter) write(t *testing.T, w core.Work) {
	t.Helper()
	if w.HasState {
		p.state = w.State
	}
	if w.Snap.Index > 0 {
		if w.Snap.Index > p.snap.Index {
			p.snap = w.Snap
		}
		p.base, p.entries = w.Snap.Index, nil
	}
	if len(w.Entries) > 0 {
		keep := w.Entries[0].Index - p.base - 1
		if keep < 0 || keep > len(p.entries) {
			t.Fatalf("entries from %d on are to be written behind %d", w.Entries[0].Index, p.last())
		}
		p.entries = append(p.entries[:keep:keep], w.Entries...)
	}
}

func (p *platter) last() int { return p.base + len(p.entries) }

// view is what a core is made of anew: the entries behind the snapshot, if the log has what it stands for.
func (p *platter) view() []api.Entry {
	at := p.snap.Index - p.base
	switch {
	case at <= 0:
		return p.entries
	case at > len(p.entries) || p.entries[at-1].Term != p.snap.Term:
		p.base, p.entries = p.snap.Index, nil
	default:
		return p.entries[at:]
	}
	return nil
}

// held is a work that isn't synced, and the log when it was handed.
type held struct {
	core.Work
	base    int
	entries []api.Entry
}

// site is a node: a core that is made anew out of what is durable.
type site struct {
	*duo
	o       core.Opts
	disk    platter
	held    []held
	chain   string // stands for all that was applied
	stored  int    // its index
	status  core.Status
	alive   int         // how often it was made
	unheard map[int]int // of reads that it took: what was committed anywhere then
}

// cluster is sites, and messages between them.
type cluster struct {
	t         *testing.T
	r         *rand.Rand
	sites     []*site // by id less 1
	mail      []api.Message
	cut       [8][8]int // 1: no message goes
	wild      int       // how often mail is lost or doubled, of 100
	leaders   map[int]int
	votes     map[[2]int]int
	committed map[int]api.Entry
	most      int // the greatest index that was committed anywhere
	chains    map[int]string
	asked     int
	calls     map[string]int
}

func newCluster(t *testing.T, seed uint64, calls map[string]int) *cluster {
	c := &cluster{t: t, r: rand.New(rand.NewPCG(seed, 1013)), calls: calls, leaders: map[int]int{}, votes: map[[2]int]int{}, committed: map[int]api.Entry{}, chains: map[int]string{}}
	nodes := []int{1, 2, 3, 3, 3, 4, 5, 5, 7}[c.r.IntN(9)]
	c.wild = []int{0, 5, 30}[c.r.IntN(3)]
	o := core.Opts{Nodes: nodes, Election: 3 + c.r.IntN(4), Batch: 1 + c.r.IntN(4), Window: 1 + c.r.IntN(3), Reads: 1 + c.r.IntN(4), Pending: 4 + c.r.IntN(9)}
	o.Beat = 1 + c.r.IntN(2)
	for id := 1; id <= nodes; id++ {
		o.ID = id
		s := &site{o: o}
		c.sites = append(c.sites, s)
		c.make(s)
	}
	return c
}

// make makes a site's core out of what is durable.
func (c *cluster) make(s *site) {
	entries := s.disk.view()
	s.duo = newDuo(c.t, c.calls, s.o, s.disk.state, s.disk.snap, entries, c.r.IntN(9))
	s.held, s.unheard = nil, map[int]int{}
	s.chain, s.stored = string(s.disk.snap.Data), s.disk.snap.Index
	s.status = s.c.Status()
	s.alive++
}

// crash takes away what isn't durable. Some of what is held may be durable, though nothing of it was told.
func (c *cluster) crash(s *site) {
	for _, w := range s.held[:c.r.IntN(len(s.held)+1)] {
		s.disk.write(c.t, w.Work)
	}
	if len(s.held) > 0 {
		c.calls["crash with works"]++
	}
	c.make(s)
	c.calls["crash"]++
}

// voteOf is whom a message says that its sender has voted for; 0: nobody.
func voteOf(m api.Message) int {
	switch {
	case m.Kind == api.MVote:
		return m.From
	case m.Kind == api.MVoteAns && !m.Reject:
		return m.To
	}
	return 0
}

// send lets messages go. A vote that was told stands, through all crashes.
func (c *cluster) send(l []api.Message) {
	for _, m := range l {
		if vote := voteOf(m); vote != 0 {
			key := [2]int{m.From, m.Term}
			if was, ok := c.votes[key]; ok && was != vote {
				c.t.Fatalf("node %d votes for %d and for %d in term %d\n%s", m.From, was, vote, m.Term, c.sites[m.From-1].story())
			}
			c.votes[key] = vote
		}
		if c.cut[m.From][m.To] == 0 && c.r.IntN(100) >= c.wild {
			c.mail = append(c.mail, m)
		}
		if c.cut[m.From][m.To] == 0 && c.r.IntN(100) < c.wild {
			c.mail = append(c.mail, m)
		}
	}
}

func (c *cluster) deliver() {
	if len(c.mail) == 0 {
		return
	}
	i := 0
	if c.wild > 0 {
		i = c.r.IntN(len(c.mail))
	}
	m := c.mail[i]
	c.mail = slices.Delete(c.mail, i, i+1)
	if len(c.mail) > 300 {
		c.mail = slices.Delete(c.mail, 0, 200)
	}
	s := c.sites[m.To-1]
	last := s.c.Status().Last
	s.step(m)
	if now := s.c.Status().Last; now < last {
		c.calls["taken back"]++
	}
}

// ready takes a site's work: what is applied is done at once.
func (c *cluster) ready(s *site) {
	w, ok := s.ready()
	if !ok {
		return
	}
	c.send(w.Now)
	if w.Number > 0 {
		base, _, entries := s.c.Log()
		s.held = append(s.held, held{w, base, entries})
	}
	if w.Snap.Index > 0 {
		c.store(s, w.Snap.Index, string(w.Snap.Data))
		c.calls["installed"]++
	}
	for _, x := range w.Apply {
		h := fnv.New64a()
		fmt.Fprint(h, s.chain, x.Index, x.Term, x.Kind, string(x.Data))
		c.store(s, x.Index, fmt.Sprint(h.Sum64()))
	}
	for _, r := range w.Reads {
		least, ok := s.unheard[r.ID]
		if !ok || r.Index < least {
			c.t.Fatalf("read %d is ready at %d; %d was committed when it was asked (%v)\n%s", r.ID, r.Index, least, ok, s.story())
		}
		delete(s.unheard, r.ID)
		c.calls["read"]++
		if s.status.Commit > r.Index {
			c.calls["read behind"]++
		}
	}
	for _, id := range w.Dropped {
		if _, ok := s.unheard[id]; !ok {
			c.t.Fatalf("read %d is dropped, and was not asked, or is ready", id)
		}
		delete(s.unheard, id)
		c.calls["dropped"]++
	}
}

// store lets a site have applied all up to an index: no other one has applied anything else.
func (c *cluster) store(s *site, index int, chain string) {
	s.chain, s.stored = chain, index
	if was, ok := c.chains[index]; ok && was != chain {
		c.t.Fatalf("node %d has applied something else up to %d\n%s", s.o.ID, index, s.story())
	}
	c.chains[index] = chain
}

// sync makes some of the works durable, tells it, and lets their messages go.
func (c *cluster) sync(s *site) {
	if len(s.held) == 0 {
		return
	}
	n := 1 + c.r.IntN(len(s.held))
	done := s.held[:n]
	s.held = s.held[n:]
	for _, w := range done {
		s.disk.write(c.t, w.Work)
	}
	s.synced(done[n-1].Number)
	for _, w := range done {
		for _, m := range w.After {
			c.durable(s, w, m)
		}
		c.send(w.After)
	}
}

// durable holds that all that a message behind a sync speaks of is durable.
func (c *cluster) durable(s *site, w held, m api.Message) {
	c.t.Helper()
	d := s.disk
	vote := voteOf(m)
	if d.state.Term < m.Term || vote != 0 && d.state.Term == m.Term && d.state.Vote != vote {
		c.t.Fatalf("%s goes; durable is %v\n%s", shownMessage(m), d.state, s.story())
	}
	// What a message of an earlier term than the log's leader spoke of may be taken back since.
	if m.Kind != api.MAppAns || m.Reject || m.Term < s.c.Status().Term {
		return
	}
	c.calls["acknowledged"]++
	if d.last() < m.Index {
		c.t.Fatalf("%s goes; durable is up to %d\n%s", shownMessage(m), d.last(), s.story())
	}
	for _, x := range w.entries {
		if x.Index > m.Index {
			break
		}
		if x.Index > d.base && !sameEntry(x, d.entries[x.Index-d.base-1]) {
			c.t.Fatalf("%s goes; durable is not %s\n%s", shownMessage(m), shown([]api.Entry{x}), s.story())
		}
	}
}

// compact lets a site have a snapshot of its store, which is durable first.
func (c *cluster) compact(s *site) {
	status := s.c.Status()
	base, _, entries := s.c.Log()
	at := s.stored - base
	if s.stored > status.Applied || s.stored <= s.disk.snap.Index || at < 1 || at > len(entries) {
		return
	}
	snap := api.Snap{Index: s.stored, Term: entries[at-1].Term, Data: []byte(s.chain)}
	s.disk.snap = snap
	if !s.duo.compact(snap, c.r.IntN(4)) {
		c.t.Fatalf("Compact at %d is refused\n%s", snap.Index, s.story())
	}
	c.calls["compacted"]++
}

// look holds a site to P10.13 and P10.14.
func (c *cluster) look(s *site) {
	c.t.Helper()
	was, now := s.status, s.c.Status()
	s.status = now
	if now.Term < was.Term || now.Term == was.Term && was.Vote != 0 && now.Vote != was.Vote {
		c.t.Fatalf("node %d: %v; behind %v\n%s", s.o.ID, now, was, s.story())
	}
	if now.Commit != was.Commit {
		c.commit(s, now.Commit)
	}
	if now.Role == api.Leader && (was.Role != api.Leader || was.Term != now.Term) {
		c.elected(s)
	}
}

// commit holds what a site has committed against what others have.
func (c *cluster) commit(s *site, to int) {
	base, term, entries := s.c.Log()
	if x, ok := c.committed[base]; ok && x.Term != term {
		c.t.Fatalf("node %d has %d of term %d committed; not %s\n%s", s.o.ID, base, term, shown([]api.Entry{x}), s.story())
	}
	for _, x := range entries {
		if x.Index > to {
			break
		}
		if other, ok := c.committed[x.Index]; ok && !sameEntry(x, other) {
			c.t.Fatalf("node %d has committed %s; not %s\n%s", s.o.ID, shown([]api.Entry{x}), shown([]api.Entry{other}), s.story())
		}
		c.committed[x.Index] = x
	}
	c.most = max(c.most, to)
}

// elected holds that a new leader is the only one of its term, and has all that is committed.
func (c *cluster) elected(s *site) {
	c.calls["elected"]++
	// One that is alone leads ahead of any sync, and may do so again in the same term behind a crash.
	if id, ok := c.leaders[s.status.Term]; ok && (id != s.o.ID || s.o.Nodes > 1) {
		c.t.Fatalf("nodes %d and %d lead in term %d\n%s", id, s.o.ID, s.status.Term, s.story())
	}
	c.leaders[s.status.Term] = s.o.ID
	base, _, entries := s.c.Log()
	for index, x := range c.committed {
		if index > base && (index > s.status.Last || !sameEntry(entries[index-base-1], x)) {
			c.t.Fatalf("node %d leads without %s\n%s", s.o.ID, shown([]api.Entry{x}), s.story())
		}
	}
}

// cutLinks lets a node, or a side, be alone for a while; or all be linked again.
func (c *cluster) cutLinks() {
	c.cut = [8][8]int{}
	if c.r.IntN(2) == 0 {
		return
	}
	side := c.r.IntN(1 << len(c.sites))
	if c.r.IntN(2) == 0 {
		side = 1 << (c.client().o.ID - 1)
	}
	for a := range c.sites {
		for b := range c.sites {
			if side>>a&1 != side>>b&1 {
				c.cut[a+1][b+1] = 1
			}
		}
	}
}

// client is a site that a client asks: mostly one that leads.
func (c *cluster) client() *site {
	first := c.r.IntN(len(c.sites))
	for i := range c.sites {
		if s := c.sites[(first+i)%len(c.sites)]; s.status.Role == api.Leader && c.r.IntN(4) > 0 {
			return s
		}
	}
	return c.sites[first]
}

// step lets something happen.
func (c *cluster) step() {
	s := c.sites[c.r.IntN(len(c.sites))]
	switch k := c.r.IntN(1000); {
	case k < 360:
		c.deliver()
	case k < 500:
		s.tick(c.r.IntN(9))
	case k < 680:
		c.ready(s)
	case k < 850:
		c.sync(s)
	case k < 890:
		s.applied(s.stored)
	case k < 940:
		c.client().propose([]byte(fmt.Sprint("v", c.r.IntN(1000))))
	case k < 975:
		c.asked++
		if s, most := c.client(), c.most; s.read(c.asked) {
			s.unheard[c.asked] = most
		}
	case k < 990:
		c.compact(s)
	case k < 993:
		c.crash(s)
	default:
		c.cutLinks()
	}
	for _, s := range c.sites {
		c.look(s)
	}
}

// playClusters lets many clusters go on for a while, and tells what happened in them.
func playClusters(t *testing.T, first uint64) map[string]int {
	t.Helper()
	calls := map[string]int{}
	for seed := first; seed < first+120; seed++ {
		c := newCluster(t, seed, calls)
		for range 4000 {
			c.step()
		}
		calls["committed"] += c.most
	}
	return calls
}

// enoughOf tells of what happened too seldom.
func enoughOf(t *testing.T, calls map[string]int, least int, kinds string) {
	t.Helper()
	for _, k := range strings.Split(kinds, ", ") {
		if calls[k] < least {
			t.Errorf("%s: %d times alone", k, calls[k])
		}
	}
}

func TestP10_13_OneLeader(t *testing.T) {
	t.Parallel()
	calls := playClusters(t, 1000)
	enoughOf(t, calls, 200, "elected, crash, crash with works, leader to follower, candidate to follower")
}

func TestP10_14_CommittedStays(t *testing.T) {
	t.Parallel()
	calls := playClusters(t, 2000)
	enoughOf(t, calls, 200, "elected, committed, crash, compacted")
	enoughOf(t, calls, 30, "installed, taken back")
}

func TestP10_15_AcknowledgedIsDurable(t *testing.T) {
	t.Parallel()
	calls := playClusters(t, 3000)
	enoughOf(t, calls, 200, "acknowledged, crash with works")
	enoughOf(t, calls, 30, "installed")
}

func TestP10_16_Reads(t *testing.T) {
	t.Parallel()
	calls := playClusters(t, 4000)
	enoughOf(t, calls, 100, "read, dropped, elected")
}
