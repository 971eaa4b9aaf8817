package core

import (
	"synod/api"
	"synod/codec"
)

// Work is what is to be done.
type Work struct {
	Number   int // 0: nothing is to be written, and nothing waits for it
	HasState bool
	State    api.State
	Snap     api.Snap
	Entries  []api.Entry
	Now      []api.Message
	After    []api.Message
	Apply    []api.Entry
	Reads    []Read
	Dropped  []int
}

// desk is what a core has to say, and what it has handed to the writer.
type desk struct {
	said      Work      // messages and reads, since the last work
	unwritten bool      // the newest snapshot was not handed yet
	handed    api.State // the last one
	number    int       // of the last work with one
	works     []place   // of each work that isn't synced, up to that number: where the log ended
}

// place is an index and its term.
type place struct{ index, term int }

// state is what it has to remember.
func (c *Core) state() api.State {
	return api.State{Term: c.term, Vote: c.vote, Commit: c.committed()}
}

// Ready is the work there is.
func (c *Core) Ready() (Work, bool) {
	w := c.said
	c.said = Work{}
	if s := c.state(); s != c.handed {
		w.HasState, w.State, c.handed = true, s, s
	}
	// Compact can't have put another one in its place: nothing behind it is applied ahead of its work.
	if c.unwritten {
		w.Snap, c.unwritten = own(c.newest), false
	}
	w.Entries = c.log.Hand()
	w.Apply = c.log.Next(c.opts.Batch)
	if w.waits() {
		w.Number = c.count()
	}
	if w.isNone() {
		return Work{}, false
	}
	return w, true
}

// waits tells whether something is to be written, or waits for it.
func (w Work) waits() bool {
	return w.HasState || w.Snap.Index > 0 || len(w.Entries) > 0 || len(w.After) > 0
}

// isNone tells whether there is nothing to be done.
func (w Work) isNone() bool {
	return w.Number == 0 && len(w.Now) == 0 && len(w.Apply) == 0 && len(w.Reads) == 0 && len(w.Dropped) == 0
}

// count is the next work's number; it keeps where the log ends.
func (c *Core) count() int {
	index, term := c.log.Last()
	c.works = append(c.works, place{index, term})
	c.number++
	return c.number
}

// Synced tells that works are durable.
func (c *Core) Synced(number int) api.Errno {
	told := c.number - len(c.works)
	if number <= told || number > c.number {
		return api.ErrRange
	}
	for _, end := range c.works[:number-told] {
		c.log.Stable(end.index, end.term)
	}
	c.works = c.works[number-told:]
	if c.role == api.Leader && c.moveCommit() {
		c.sendAll()
	}
	return api.OK
}

// Applied tells that entries were applied.
func (c *Core) Applied(index int) bool { return c.log.Applied(index) }

// Compact takes the store's snapshot.
func (c *Core) Compact(s api.Snap, keep int) api.Errno {
	if err := (codec.Snaps{}).Check(s); err != api.OK {
		return err
	}
	switch {
	case s.Index > c.log.Marks().Applied, s.Index <= c.newest.Index, !within(keep, 0, api.MaxLog):
		return api.ErrRange
	case !c.log.Has(s.Index, s.Term):
		return api.ErrForm
	}
	c.newest = own(s)
	if base, _ := c.log.Base(); s.Index-keep > base {
		c.log.Compact(s.Index - keep)
	}
	return api.OK
}
