package core

import "synod/raftlog"

// Marks are those of its log, which no call of a core tells whole.
func (c *Core) Marks() raftlog.Marks { return c.log.Marks() }
