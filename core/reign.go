package core

import (
	"synod/api"
	"synod/track"
)

// reign is what a core has as a leader, and only then.
type reign struct {
	progress map[int]*track.Progress // of each of the others
	ticks    int                     // since its last beats
	waiting  []waiting
}

// waiting is a read that waits for a quorum.
type waiting struct {
	Read
	number  int
	answers *track.Votes
}

func (c *Core) hearEntries(p *track.Progress, m api.Message) {
	switch {
	case m.Index > c.last():
	case m.Reject:
		if p.Rejected(m.Index, m.Hint) {
			c.send(m.From)
		}
	default:
		p.Acked(m.Index)
		if c.moveCommit() {
			c.sendAll()
		} else {
			c.sendLeft(m.From)
		}
	}
}

func (c *Core) hearBeat(p *track.Progress, m api.Message) {
	p.Beat()
	if p.Match() < c.last() {
		c.send(m.From)
	}
	c.answerReads(m.From, m.Ctx)
}

// send sends a node entries, if it may be sent any; or the newest snapshot, where what it needs is gone.
func (c *Core) send(id int) {
	p := c.progress[id]
	if !p.May() {
		return
	}
	ahead := p.Next() - 1
	term, err := c.log.Term(ahead)
	if err != api.OK {
		c.now(id, api.Message{Kind: api.MSnap, Snap: own(c.newest)})
		p.Snap(c.newest.Index)
		return
	}
	entries, _ := c.log.Entries(ahead+1, c.opts.Batch)
	c.now(id, api.Message{Kind: api.MApp, Index: ahead, LogTerm: term, Commit: c.committed(), Entries: entries})
	p.Sent(ahead + len(entries))
}

// sendAll sends each of the others entries.
func (c *Core) sendAll() {
	for _, id := range c.others() {
		c.send(id)
	}
}

// sendLeft sends a node entries as long as there are some that it may be sent.
func (c *Core) sendLeft(id int) {
	for p := c.progress[id]; p.May() && p.Next() <= c.last(); {
		c.send(id)
	}
}

// beats tells each of the others that it leads.
func (c *Core) beats() {
	c.ticks = 0
	ctx := 0
	if n := len(c.waiting); n > 0 {
		ctx = c.waiting[n-1].number
	}
	for _, id := range c.others() {
		// A node is told no more than it is known to have: it may have other entries behind.
		commit := min(c.progress[id].Match(), c.committed())
		c.now(id, api.Message{Kind: api.MBeat, Commit: commit, Ctx: ctx})
	}
}

// moveCommit commits what a quorum has, and tells whether that is more than before.
func (c *Core) moveCommit() bool {
	match := []int{c.log.Marks().Stable}
	for _, id := range c.others() {
		match = append(match, c.progress[id].Match())
	}
	index := track.Commit(match)
	// An earlier term's entry isn't safe by a quorum alone, but only by one of this term behind it.
	return c.log.Has(index, c.term) && c.log.Commit(index)
}

// wait lets a read wait for a quorum.
func (c *Core) wait(r Read) {
	c.asked++
	answers := track.NewVotes(c.opts.Nodes)
	answers.Put(c.opts.ID, true)
	c.waiting = append(c.waiting, waiting{r, c.asked, answers})
}

// answerReads counts a node's answer to all reads up to a number, and tells those ready that a quorum has answered.
func (c *Core) answerReads(from, upTo int) {
	var left []waiting
	for _, w := range c.waiting {
		if w.number <= upTo {
			w.answers.Put(from, true)
		}
		if w.answers.Result() == track.Won {
			c.said.Reads = append(c.said.Reads, w.Read)
		} else {
			left = append(left, w)
		}
	}
	c.waiting = left
}

// dropReads tells of all reads that wait that they are dropped.
func (c *Core) dropReads() {
	for _, w := range c.waiting {
		c.said.Dropped = append(c.said.Dropped, w.ID)
	}
}
