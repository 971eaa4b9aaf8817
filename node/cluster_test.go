package node_test

import (
	"bytes"
	"fmt"
	"math/rand/v2"
	"slices"
	"strings"
	"testing"

	"synod/api"
	"synod/codec"
	"synod/core"
	"synod/disk"
	"synod/node"
)

// site is a node of a cluster, and its model, each on a disk of its own.
type site struct {
	o     node.Opts
	n     *node.Node
	m     *model
	d, md *disk.Disk
	armed bool
	story []deed
	// Of this life: what it told, the messages that wait for a sync, and who has called.
	sent   []node.Event
	synced []int
	stored []int
	afters []waits
	seen   int // how many of the model's works were looked at
	asked  map[int]int
}

// deed is an act and what it told, or something that was done beside.
type deed struct {
	a    node.Act
	told node.Told
	note string
}

func (x deed) String() string {
	if x.note != "" {
		return x.note
	}
	return say("kind", x.a.Kind, "N", x.a.N, "call", x.a.Call, "told", shownTold(x.told))
}

// waits is a message that may go only behind the sync of a work.
type waits struct {
	number int
	frame  []byte
}

type letter struct {
	to int
	b  []byte
}

// cluster is sites, and mail between them.
type cluster struct {
	t      *testing.T
	r      *rand.Rand
	sites  []*site
	mail   []letter
	wild   int // how often mail is lost or doubled, of 100
	quick  int // who stands early
	alone  int // who is cut off from the others; 0: nobody
	ids    int
	seqs   [4]int
	odd    bool           // messages come in that no node sends
	stores map[int]string // what a store is, by the index up to which it has all
	counts map[string]int
}

func newCluster(t *testing.T, seed uint64, counts map[string]int) *cluster {
	c := &cluster{t: t, r: rand.New(rand.NewPCG(seed, 1212)), stores: map[int]string{}, counts: counts}
	c.wild, c.quick = []int{0, 3, 25}[c.r.IntN(3)], 1
	n := func(most int) int { return 1 + c.r.IntN(most) }
	o := node.Opts{
		Core:  core.Opts{Nodes: []int{1, 2, 3, 3, 3, 5}[c.r.IntN(6)], Election: 3 + n(4), Beat: n(2), Batch: n(5), Window: n(3), Reads: n(4), Pending: 3 + n(9)},
		Every: c.r.IntN(8), Keep: c.r.IntN(4), Segment: []int{64, 200, 4096}[c.r.IntN(3)],
		Inbox: n(6), Ticks: n(3), Calls: n(3), Jobs: n(4), Applies: n(4), Out: 1 + n(8),
	}
	for id := 1; id <= o.Core.Nodes; id++ {
		o.Core.ID = id
		s := &site{o: o, d: disk.New(), md: disk.New()}
		c.sites = append(c.sites, s)
		c.open(s)
	}
	return c
}

// open makes a site's node and its model of what their disks have.
func (c *cluster) open(s *site) {
	draw := c.r.IntN(9)
	var e, me api.Errno
	s.n, e = node.Open(s.o, s.d, draw)
	s.m, me = openModel(s.o, s.md, draw)
	if e != api.OK || me != api.OK {
		c.t.Fatalf("Open: %d, %d\n%s", e, me, s.tale())
	}
	s.armed, s.sent, s.synced, s.stored, s.afters, s.seen = false, nil, nil, nil, nil, 0
	s.asked = map[int]int{}
	s.wrote(deed{note: say("open", draw)})
	c.alike(s)
	c.content(s)
}

// tale is what was done to a site last.
func (s *site) tale() string {
	l := []string{say("node", s.o.Core.ID, s.o)}
	for _, x := range s.story[max(0, len(s.story)-60):] {
		l = append(l, x.String())
	}
	return strings.Join(l, "\n")
}

// wrote goes on with the tale; only its end is ever told.
func (s *site) wrote(x deed) {
	if len(s.story) > 1000 {
		s.story = slices.Delete(s.story, 0, 900)
	}
	s.story = append(s.story, x)
}

// sameTold tells whether two answers are the same.
func sameTold(a, b node.Told) bool {
	return a.Did == b.Did && a.Reply == b.Reply && slices.EqualFunc(a.Events, b.Events, func(x, y node.Event) bool {
		return x.Kind == y.Kind && x.Number == y.Number && x.Reply == y.Reply && bytes.Equal(x.Data, y.Data)
	})
}

// do does an act to a site's node and to its model.
func (c *cluster) do(s *site, a node.Act) node.Told {
	have, want := node.Do(s.n, a), s.m.do(a)
	s.wrote(deed{a: a, told: have})
	if !sameTold(have, want) {
		c.t.Fatalf("have %s\nwant %s\n%s", shownTold(have), shownTold(want), s.tale())
	}
	c.alike(s)
	c.took(s, a, have)
	return have
}

// alike holds all that a node tells against its model.
func (c *cluster) alike(s *site) {
	if have, want := s.n.View(), s.m.view(); have != want {
		c.t.Fatalf("have %s\nwant %s\n%s", shownView(have), shownView(want), s.tale())
	}
	if c.r.IntN(50) > 0 {
		return
	}
	base, term, l := s.n.Log()
	mbase, mterm, ml := s.m.c.Log()
	if base != mbase || term != mterm || !sameEntries(l, ml) {
		c.t.Fatalf("have %d %d %s\nwant %d %d %s\n%s", base, term, shownEntries(l), mbase, mterm, shownEntries(ml), s.tale())
	}
	done := s.m.over[1] && s.m.over[2] && s.m.over[3] && s.m.over[4]
	have := say(c.shownStore(s), s.n.Done())
	if want := say(s.m.s.Get("a"), s.m.s.Get("b"), s.m.s.Get("c"), s.m.s.Sessions(), done); have != want {
		c.t.Fatalf("have %s\nwant %s\n%s", have, want, s.tale())
	}
	if have, want := s.d.Files(), s.md.Files(); !sameFiles(have, want) {
		c.t.Fatalf("have %v\nwant %v\n%s", have, want, s.tale())
	}
}

func sameEntries(a, b []api.Entry) bool {
	return slices.EqualFunc(a, b, func(x, y api.Entry) bool { return codec.Same(codec.Entries{}, x, y) })
}

func sameFiles(a, b []api.File) bool {
	return slices.EqualFunc(a, b, func(x, y api.File) bool {
		return x.Name == y.Name && x.Synced == y.Synced && bytes.Equal(x.Data, y.Data)
	})
}

// shownStore is a node's store, as text.
func (c *cluster) shownStore(s *site) string {
	return say(s.n.Get("a"), s.n.Get("b"), s.n.Get("c"), s.n.Sessions())
}

// content holds that the store is what every store is that has all up to this index.
func (c *cluster) content(s *site) {
	index, have := s.n.View().Stored, c.shownStore(s)
	if want, ok := c.stores[index]; ok && have != want {
		c.t.Fatalf("the store at %d is %s; it was %s\n%s", index, have, want, s.tale())
	}
	c.stores[index] = have
}

// took looks at what an act told.
func (c *cluster) took(s *site, a node.Act, told node.Told) {
	for ; s.seen < len(s.m.works); s.seen++ {
		w := s.m.works[s.seen]
		for _, x := range w.After {
			s.afters = append(s.afters, waits{w.Number, framed(x)})
		}
	}
	for i, e := range told.Events {
		c.counts[strings.Fields(shownEvent(e))[0]]++
		switch e.Kind {
		case node.ESend:
			c.sends(s, e)
		case node.ESync:
			s.synced = append(s.synced, e.Number)
		case node.EApply:
			s.stored = append(s.stored, e.Number)
		case node.EReply:
			c.replies(s, told.Events[:i], e)
		}
	}
	if a.Kind == node.APick {
		if told.Did {
			c.counts[fmt.Sprint("pick ", a.N)]++
		}
		if a.N == node.PApply && told.Did {
			c.content(s)
		}
	}
	if told.Reply.Code != 0 {
		c.counts["refused "+shownReply(told.Reply)]++
	}
}

// sends lets a message go. One that waits for a sync goes behind that sync alone, and all that it says is durable.
func (c *cluster) sends(s *site, e node.Event) {
	s.sent = append(s.sent, e)
	m, err := message(e.Data)
	if err != api.OK || m.To != e.Number || m.From != s.o.Core.ID {
		c.t.Fatalf("%s\n%s", shownEvent(e), s.tale())
	}
	if m.Kind == api.MSnap {
		c.counts["send Snap"]++
	}
	if m.Kind != api.MApp && m.Kind != api.MBeat && m.Kind != api.MSnap {
		at := slices.IndexFunc(s.afters, func(w waits) bool { return bytes.Equal(w.frame, e.Data) })
		if at < 0 || s.afters[at].number > s.n.View().Synced {
			c.t.Fatalf("%s goes ahead of the sync\n%s", shownEvent(e), s.tale())
		}
		s.afters = slices.Delete(s.afters, at, at+1)
		c.counts["after"]++
		if s.n.View().Held+s.n.View().Jobs > 0 {
			c.counts["after while more is to be written"]++
		}
		// A snapshot that no store has may be on the disk then: Open refuses it.
		if !c.odd && c.r.IntN(4) == 0 {
			c.leans(s, m)
		}
	}
	cut := c.alone == m.From || c.alone == m.To
	for _, loss := range []bool{true, false} {
		if (c.r.IntN(100) < c.wild) != loss && !cut {
			c.mail = append(c.mail, letter{e.Number, e.Data})
		}
	}
}

// leans holds that what a message says of its sender is durable.
func (c *cluster) leans(s *site, m api.Message) {
	d, _ := disk.Load(s.d.Files())
	d.Crash(0)
	n, e := node.Open(s.o, d, 0)
	if e != api.OK {
		c.t.Fatalf("Open: %d\n%s", e, s.tale())
	}
	v := n.View().Core
	vote := 0
	switch {
	case m.Kind == api.MVote:
		vote = m.From
	case m.Kind == api.MVoteAns && !m.Reject:
		vote = m.To
	}
	if v.Term < m.Term || vote != 0 && v.Term == m.Term && v.Vote != vote {
		c.t.Fatalf("%s goes; durable is term %d, vote %d\n%s", shownMessage(m), v.Term, v.Vote, s.tale())
	}
	if m.Kind == api.MAppAns && !m.Reject && m.Term == s.n.View().Core.Term && v.Last < m.Index {
		c.t.Fatalf("%s goes; durable is up to %d\n%s", shownMessage(m), v.Last, s.tale())
	}
	c.counts["leans"]++
}

// replies looks at a reply, and at what the same step told ahead of it.
func (c *cluster) replies(s *site, ahead []node.Event, e node.Event) {
	op, ok := s.asked[e.Number]
	if !ok {
		c.t.Fatalf("%s: nobody asked, or it has its reply\n%s", shownEvent(e), s.tale())
	}
	delete(s.asked, e.Number)
	switch {
	case e.Reply.Code == api.RLead && op == api.OpGet && len(s.m.works) > 0 && slices.Contains(s.m.works[len(s.m.works)-1].Dropped, e.Number):
		c.counts["dropped"]++
	case e.Reply.Code == api.RLost && (len(ahead) == 0 || ahead[len(ahead)-1].Kind == node.EReply):
		c.counts["lost to a snapshot, or a call"]++
	}
	c.counts["reply "+strings.Fields(shownReply(e.Reply))[0]]++
	if op == api.OpGet || e.Reply.Code > api.RFull {
		return
	}
	if n := len(ahead); n == 0 || ahead[n-1].Kind != node.EApply {
		c.t.Fatalf("%s, not behind an apply\n%s", shownEvent(e), s.tale())
	}
}

// crash takes away what isn't durable, and opens the node anew.
func (c *cluster) crash(s *site) {
	was := s.n.View()
	keep := []int{0, 1 + c.r.IntN(40), 9999}[c.r.IntN(3)]
	s.d.Crash(keep)
	s.md.Crash(keep)
	var least stand
	if was.Synced > 0 {
		least = s.m.handed[was.Synced-1]
	}
	c.pure(s)
	c.open(s)
	now := s.n.View()
	base, term, entries := s.n.Log()
	c.noLess(s, least, stand{now.Core, base, term, entries})
	// A snapshot from the leader may be on the disk ahead of the store.
	if now.Stored > max(was.Stored, was.Snap) || now.Synced != 0 {
		c.t.Fatalf("stored is %d; it was %d\n%s", now.Stored, was.Stored, s.tale())
	}
	c.counts["crash"]++
	if was.Held > 0 && keep > 0 {
		c.counts["crash with more"]++
	}
	if now.Snap > 0 {
		c.counts["crash with a snapshot"]++
	}
}

// noLess holds that what was found behind a crash is no less than what was synced.
func (c *cluster) noLess(s *site, least, now stand) {
	older := now.lastTerm() < least.lastTerm() || now.lastTerm() == least.lastTerm() && now.Last < least.Last
	if now.Term < least.Term || now.Term == least.Term && least.Vote != 0 && now.Vote != least.Vote || older {
		c.t.Fatalf("found %v; synced was %v\n%s", now, least, s.tale())
	}
	for _, x := range least.entries {
		if x.Index > least.Commit || x.Index <= now.base {
			continue
		}
		if x.Index > now.Last || !codec.Same(codec.Entries{}, x, now.entries[x.Index-now.base-1]) {
			c.t.Fatalf("%d was committed, and is another one\n%s", x.Index, s.tale())
		}
	}
}

// client is a site that a client asks: mostly one that leads.
func (c *cluster) client() *site {
	first := c.r.IntN(len(c.sites))
	for i := range c.sites {
		if s := c.sites[(first+i)%len(c.sites)]; s.n.View().Core.Role == api.Leader && c.r.IntN(5) > 0 {
			return s
		}
	}
	return c.sites[first]
}

func (c *cluster) call() {
	s, r := c.client(), c.r
	c.ids++
	x := node.Call{ID: c.ids, Command: api.Command{Op: api.OpGet, Key: string("abc"[r.IntN(3)])}}
	if r.IntN(3) > 0 {
		client := r.IntN(len(c.seqs))
		c.seqs[client] = max(1, c.seqs[client]+r.IntN(4)-1)
		x.Command.Op, x.Command.Client, x.Command.Seq = 2+r.IntN(3), client+1, c.seqs[client]
		if x.Command.Op != api.OpDelete {
			x.Command.Value = fmt.Sprint("v", r.IntN(3))
		}
		if x.Command.Op == api.OpSwap {
			x.Command.Old = fmt.Sprint("v", r.IntN(3))
		}
	}
	if c.do(s, called(x)).Did {
		s.asked[x.ID] = x.Command.Op
	}
}

func (c *cluster) deliver() {
	if len(c.mail) == 0 {
		return
	}
	i := 0
	if c.wild > 0 {
		i = c.r.IntN(min(9, len(c.mail)))
	}
	x := c.mail[i]
	c.mail = slices.Delete(c.mail, i, i+1)
	if len(c.mail) > 200 {
		c.mail = slices.Delete(c.mail, 0, 100)
	}
	if c.r.IntN(200) == 0 {
		x.b = slices.Clone(x.b)
		x.b[c.r.IntN(len(x.b))] ^= 1 << c.r.IntN(8)
		c.counts["spoilt"]++
	}
	c.do(c.sites[x.to-1], node.Act{Kind: node.ADeliver, Data: x.b})
}

// step lets something happen.
func (c *cluster) step() {
	s := c.sites[c.r.IntN(len(c.sites))]
	switch k := c.r.IntN(10000); {
	case k < 2000:
		c.deliver()
	case k < 2250:
		c.do(s, ticked(c.draw(s)))
	case k < 2600:
		c.call()
	case k < 3400:
		c.sweep(s)
	case k < 3404:
		c.crash(s)
	case k < 3408 && !s.armed:
		n := 1 + c.r.IntN(30)
		s.d.Arm(n)
		s.md.Arm(n)
		s.armed = true
		s.wrote(deed{note: say("arm", n)})
	case k < 3410:
		c.stop(s)
	case k < 3430:
		c.part()
	default:
		c.do(s, picked(c.r.IntN(11)))
	}
	if !s.n.View().Up {
		c.counts["went down"]++
		c.crash(s)
	}
}

// part lets another one stand early; at times the one that leads is cut off meanwhile.
func (c *cluster) part() {
	c.alone = 0
	if c.r.IntN(2) == 0 {
		return
	}
	c.quick = 1 + c.r.IntN(len(c.sites))
	if id := c.client().o.Core.ID; id != c.quick && c.r.IntN(2) == 0 {
		c.alone = id
	}
}

func (c *cluster) draw(s *site) int {
	if s.o.Core.ID == c.quick || c.r.IntN(50) == 0 {
		return c.r.IntN(3)
	}
	return 8 * s.o.Core.Election
}

// sweep lets a node do what it has to do, for a while.
func (c *cluster) sweep(s *site) {
	for range 1 + c.r.IntN(3) {
		for _, kind := range all() {
			for c.do(s, picked(kind)).Did && c.r.IntN(30) > 0 {
			}
		}
	}
}

// stop stops a node, and opens it again when all its tasks have ended; or ahead of that.
func (c *cluster) stop(s *site) {
	c.do(s, stopped())
	if c.r.IntN(3) == 0 {
		for range c.r.IntN(20) {
			c.do(s, picked(c.r.IntN(11)))
		}
		c.crash(s)
		return
	}
	o := s.o
	for range o.Jobs + o.Applies + o.Core.Nodes*o.Out + 8 {
		for _, kind := range []int{node.PNotice, node.PWrite, node.PSync, node.PApply, node.PSend} {
			c.do(s, picked(kind))
		}
	}
	if !s.n.Done() && s.n.View().Up {
		c.t.Fatalf("not all tasks have ended: %s\n%s", shownView(s.n.View()), s.tale())
	}
	c.counts["stopped"]++
	if s.n.Done() {
		c.counts["done"]++
	}
	c.crash(s)
}

// playClusters lets many clusters go on for a while, and tells what happened in them.
func playClusters(t *testing.T, first uint64, clusters, steps int) map[string]int {
	t.Helper()
	counts := map[string]int{}
	for seed := first; seed < first+uint64(clusters); seed++ {
		c := newCluster(t, seed, counts)
		for range steps {
			c.step()
		}
		for _, s := range c.sites {
			c.pure(s)
			counts["stored"] += s.n.View().Stored
		}
	}
	return counts
}

// enough tells of what happened too seldom.
func enough(t *testing.T, counts map[string]int, least int, kinds string) {
	t.Helper()
	for _, k := range strings.Split(kinds, ", ") {
		if counts[k] < least {
			t.Errorf("%s: %d times alone", k, counts[k])
		}
	}
}
