package core

import (
	"synod/api"
	"synod/track"
)

// Tick lets a tick pass.
func (c *Core) Tick(draw int) {
	if c.role == api.Leader {
		c.ticks++
		if c.ticks == c.opts.Beat {
			c.beats()
		}
		return
	}
	if c.elapsed == 0 {
		c.timeout = c.opts.timeout(draw)
	}
	c.elapsed++
	if c.elapsed >= c.timeout {
		c.stand()
	}
}

// stand lets it be a candidate of the next term.
func (c *Core) stand() {
	c.elapsed = 0
	if c.term == api.MaxIndex {
		return
	}
	c.term++
	c.role, c.vote, c.lead = api.Candidate, c.opts.ID, 0
	c.votes = track.NewVotes(c.opts.Nodes)
	c.votes.Put(c.opts.ID, true)
	if c.votes.Result() == track.Won {
		c.rule()
		return
	}
	index, term := c.log.Last()
	for _, id := range c.others() {
		c.after(id, api.Message{Kind: api.MVote, Index: index, LogTerm: term})
	}
}

// follow lets it be a follower; lead is 0 where it knows no leader.
func (c *Core) follow(lead int) {
	c.role, c.lead = api.Follower, lead
	c.votes, c.reign = nil, reign{}
}

// stepDown lets it be a follower of a later term.
func (c *Core) stepDown(term int) {
	if c.role == api.Leader {
		c.elapsed = 0
		c.dropReads()
	}
	c.term, c.vote = term, 0
	c.follow(0)
}

// rule lets it lead, if its log has room for the term's first entry.
func (c *Core) rule() {
	last := c.last()
	if last == api.MaxIndex || c.log.Len() >= api.MaxLog {
		c.follow(0)
		return
	}
	c.role, c.lead, c.votes = api.Leader, c.opts.ID, nil
	c.reign = reign{progress: map[int]*track.Progress{}}
	for _, id := range c.others() {
		c.progress[id] = track.NewProgress(last+1, c.opts.Window)
	}
	c.log.Append(c.term, api.EEmpty, nil)
	c.sendAll()
}
