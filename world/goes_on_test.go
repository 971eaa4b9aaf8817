package world_test

import (
	"math/rand/v2"
	"slices"
	"testing"

	"synod/api"
	"synod/core"
	"synod/node"
	"synod/world"
)

// P0.15: it goes on.

// quorumOpts are any options of which P0.15 speaks.
func quorumOpts(r *rand.Rand) world.Opts {
	n := func(most int) int { return 1 + r.IntN(most) }
	few := func() int { return []int{1, 2, 3, n(8), n(64), 64}[r.IntN(6)] }
	nodes, election := n(7), 1+[]int{1, 2, 3, n(10), n(30)}[r.IntN(5)]
	room := func() int { return 4*nodes + []int{0, r.IntN(65 - 4*nodes), 64 - 4*nodes}[r.IntN(3)] }
	return world.Opts{Nodes: nodes, Clients: []int{1, 2, 3, 16}[r.IntN(4)], Node: node.Opts{
		Core: core.Opts{
			Election: election, Beat: []int{1, n(election - 1), election - 1}[r.IntN(3)],
			Batch: few(), Window: few(), Reads: few(), Pending: []int{1, 2, n(20), 10000}[r.IntN(4)],
		},
		Every: []int{1, n(10), n(60)}[r.IntN(3)], Keep: []int{0, n(10), 10000}[r.IntN(3)], Segment: []int{64, 200, 4096, 1 << 20}[r.IntN(4)],
		Inbox: room(), Ticks: few(), Calls: few(), Jobs: few(), Applies: few(), Out: room(),
	}}
}

// ready lets a quorum of nodes, or more, be up and linked, and the others be down.
func (p *play) ready() []int {
	ids := p.r.Perm(p.o.Nodes)[:p.o.Nodes/2+1+p.r.IntN(p.o.Nodes-p.o.Nodes/2)]
	var up []int
	for id := 1; id <= p.o.Nodes; id++ {
		for other := 1; other < id; other++ {
			p.do(link(id, other))
		}
		v, ok := p.w.View(id)
		if !slices.Contains(ids, id-1) {
			p.do(crash(id, p.r.IntN(50)))
			continue
		}
		up = append(up, id)
		p.do(arm(id, 0))
		if !ok || v.Stopped {
			p.do(crash(id, p.r.IntN(50)))
			if x := p.do(start(id, 0)); !x.Did {
				p.t.Fatalf("node %d isn't started: %s", id, shownAll(x))
			}
		}
	}
	return up
}

// ending is a node's last index and term, and how many entries there are.
func (p *play) ending(id int) (spot, int) {
	base, term, entries := p.w.Log(id)
	if n := len(entries); n > 0 {
		term = entries[n-1].Term
	}
	return spot{base + len(entries), term}, len(entries)
}

// older tells whether a log with this last one is older than one with that.
func (a spot) older(b spot) bool { return a.term < b.term || a.term == b.term && a.index < b.index }

// newest is one of these nodes whose log is no older than the others', and how many entries the longest one has.
func (p *play) newest(ids []int) (best, longest int) {
	best = ids[0]
	for _, id := range ids {
		was, _ := p.ending(best)
		at, n := p.ending(id)
		if was.older(at) {
			best = id
		}
		longest = max(longest, n)
	}
	return best, longest
}

// settle lets calm rounds pass, as many as are needed for a leader, in which the log of the quick one is no older than the
// others': mail that is on its way, or another one that stands at once, may make another log newer, and then they begin anew.
func (p *play) settle(ids []int) (quick int) {
	p.t.Helper()
	quick, _ = p.newest(ids)
	left, begun := 20*p.o.Node.Core.Election, 1
	for ; left > 0; left-- {
		p.do(calm(quick, 1))
		best, _ := p.newest(ids)
		mine, _ := p.ending(quick)
		if top, _ := p.ending(best); mine.older(top) {
			quick, left, begun = best, 1+20*p.o.Node.Core.Election, begun+1
		}
		if begun > 9 {
			p.t.Fatalf("no log stays the newest: %v", p.o)
		}
	}
	return quick
}

// calms lets calm rounds pass, any number of them.
func (p *play) calms(quick, rounds int) {
	for ; rounds > 200; rounds -= 200 {
		p.do(calm(quick, 200))
	}
	p.do(calm(quick, rounds))
}

// goesOn holds that these nodes find a leader, that it stays one, and that it answers a read.
func (p *play) goesOn(ids []int) {
	t := p.t
	t.Helper()
	quick := p.settle(ids)
	leader := p.w.Leader()
	for _, id := range ids {
		v, up := p.w.View(id)
		if leader == 0 || !up || v.Core.Term > view(t, p.w, leader).Core.Term {
			t.Fatalf("%d leads in term %d; node %d, %t: %v\n%v", leader, view(t, p.w, leader).Core.Term, id, up, v.Core, p.o)
		}
	}
	_, longest := p.newest(ids)
	p.calms(quick, p.o.Node.Core.Beat*(2*longest+20))
	p.do(give(1))
	all(t, p.w, get(1, leader, "a"), calm(quick, 1))
	l := p.w.History()
	x := l[len(l)-1]
	if p.w.Leader() != leader || x.Back != p.w.Now() || x.Reply.Code != api.RDone && x.Reply.Code != api.RNone {
		t.Fatalf("%d leads, it was %d; %s\n%v", p.w.Leader(), leader, op(x), p.o)
	}
	is(t, x.Reply, p.w.Get(leader, "a"))
}

// Behind anything that happened a quorum of nodes finds a leader, and a read is answered.
func TestP0_15_ItGoesOn(t *testing.T) {
	for k := range uint64(4) {
		t.Run(say(k), func(t *testing.T) {
			t.Parallel()
			for seed := range uint64(100) {
				p := newPlay(t, 40000+100*k+seed)
				p.o = quorumOpts(p.r)
				p.w = with(t, p.o)
				p.quick = 1 + p.r.IntN(p.o.Nodes)
				for range p.r.IntN(1000) {
					p.do(p.next())
				}
				p.goesOn(p.ready())
			}
		})
	}
}

// It goes on and on: what follows upon what followed.
func TestP0_15_AgainAndAgain(t *testing.T) {
	for seed := range uint64(12) {
		p := newPlay(t, 41000+seed)
		p.o = quorumOpts(p.r)
		p.w = with(t, p.o)
		for range 8 {
			for range p.r.IntN(150) {
				p.do(p.next())
			}
			p.goesOn(p.ready())
		}
	}
}
