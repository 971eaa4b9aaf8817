package core

import (
	"synod/api"
	"synod/codec"
	"synod/track"
)

// act is what a kind of message does: one of the core's own term, and one of an earlier term.
type act struct{ fresh, old func(m api.Message) }

// Step takes a message.
func (c *Core) Step(m api.Message) api.Errno {
	if (codec.Messages{}).Check(m) != api.OK || m.To != c.opts.ID || m.From > c.opts.Nodes {
		return api.ErrMessage
	}
	if m.Term > c.term {
		c.stepDown(m.Term)
	}
	if a := c.acts()[m.Kind]; m.Term < c.term {
		a.old(m)
	} else {
		a.fresh(m)
	}
	return api.OK
}

// acts makes what a message does, by its kind.
func (c *Core) acts() map[int]act {
	pass := func(api.Message) {}
	return map[int]act{
		api.MVote:    {c.giveVote, c.refuseVote},
		api.MVoteAns: {c.countVote, pass},
		api.MApp:     {c.led(c.takeEntries), c.refuseLead},
		api.MBeat:    {c.led(c.takeBeat), c.refuseLead},
		api.MSnap:    {c.led(c.takeSnap), c.refuseLead},
		api.MAppAns:  {c.leading(c.hearEntries), pass},
		api.MBeatAns: {c.leading(c.hearBeat), pass},
	}
}

// led is what a leader's message does to one that doesn't lead itself: it follows, ahead of all else.
func (c *Core) led(do func(m api.Message)) func(api.Message) {
	return func(m api.Message) {
		if c.role == api.Leader {
			return
		}
		c.follow(m.From)
		c.elapsed = 0
		do(m)
	}
}

// leading is what an answer does to a leader, and to no one else: it is told the node's progress, too.
func (c *Core) leading(do func(p *track.Progress, m api.Message)) func(api.Message) {
	return func(m api.Message) {
		if c.role == api.Leader {
			do(c.progress[m.From], m)
		}
	}
}

func (c *Core) giveVote(m api.Message) {
	if c.vote != 0 && c.vote != m.From || !c.log.Newer(m.Index, m.LogTerm) {
		c.refuseVote(m)
		return
	}
	c.vote, c.elapsed = m.From, 0
	c.after(m.From, api.Message{Kind: api.MVoteAns})
}

func (c *Core) refuseVote(m api.Message) {
	c.after(m.From, api.Message{Kind: api.MVoteAns, Reject: true})
}

func (c *Core) countVote(m api.Message) {
	if c.role != api.Candidate {
		return
	}
	c.votes.Put(m.From, !m.Reject)
	switch c.votes.Result() {
	case track.Won:
		c.rule()
	case track.Lost:
		c.follow(0)
	}
}

func (c *Core) takeEntries(m api.Message) {
	if m.Index < c.committed() {
		c.acknowledge(m.From, c.committed())
		return
	}
	if end, ok := c.log.Try(m.Index, m.LogTerm, m.Commit, m.Entries); ok {
		c.acknowledge(m.From, end)
		return
	}
	hint := c.log.Hint(m.Index, m.LogTerm)
	c.after(m.From, api.Message{Kind: api.MAppAns, Reject: true, Index: m.Index, Hint: hint})
}

func (c *Core) takeBeat(m api.Message) {
	c.log.Commit(m.Commit)
	c.after(m.From, api.Message{Kind: api.MBeatAns, Ctx: m.Ctx})
}

func (c *Core) takeSnap(m api.Message) {
	s := m.Snap
	switch {
	case s.Index <= c.committed():
	case c.log.Has(s.Index, s.Term):
		c.log.Commit(s.Index)
	default:
		c.log.Restore(s.Index, s.Term)
		c.newest, c.unwritten = own(s), true
	}
	// Restored or not, the snapshot's index is at most committed now.
	c.acknowledge(m.From, c.committed())
}

func (c *Core) acknowledge(to, index int) {
	c.after(to, api.Message{Kind: api.MAppAns, Index: index})
}

// refuseLead tells one that leads no more of the term that there is.
func (c *Core) refuseLead(m api.Message) {
	c.after(m.From, api.Message{Kind: api.MAppAns, Reject: true})
}
