package core

import "synod/api"

// Read is a read that is ready at an index.
type Read struct{ ID, Index int }

// Propose lays a command at the log's end.
func (c *Core) Propose(data []byte) (int, int, api.Errno) {
	switch last := c.last(); {
	case c.role != api.Leader:
		return 0, 0, api.ErrLead
	case len(data) > api.MaxData:
		return 0, 0, api.ErrLong
	case last == api.MaxIndex:
		return 0, 0, api.ErrLimit
	case last-c.committed() >= c.opts.Pending, c.log.Len() >= api.MaxLog:
		return 0, 0, api.ErrFull
	}
	index, err := c.log.Append(c.term, api.ECommand, data)
	if err != api.OK {
		return 0, 0, err
	}
	for _, id := range c.others() {
		c.sendLeft(id)
	}
	return index, c.term, api.OK
}

// Read asks where a read may be done.
func (c *Core) Read(id int) api.Errno {
	r := Read{ID: id, Index: c.committed()}
	switch {
	case c.role != api.Leader:
		return api.ErrLead
	case !c.log.Has(r.Index, c.term):
		return api.ErrEarly
	case len(c.waiting) >= c.opts.Reads:
		return api.ErrFull
	}
	if c.opts.Nodes == 1 {
		c.said.Reads = append(c.said.Reads, r)
		return api.OK
	}
	c.wait(r)
	c.beats()
	return api.OK
}
