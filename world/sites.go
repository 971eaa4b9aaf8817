package world

import (
	"synod/api"
	"synod/disk"
	"synod/net"
	"synod/node"
)

// asked is what the world asks of a node.
type asked interface {
	Deliver(b []byte) bool
	Tick(draw int) bool
	Call(c node.Call) (api.Reply, bool)
	Pick(kind int) ([]node.Event, bool)
	Stop()
	Done() bool
	View() node.View
	Get(key string) api.Reply
	Log() (int, int, []api.Entry)
}

// site is where a node runs: its disk stays, while one node comes behind the other.
type site struct {
	id      int
	opts    node.Opts
	disk    *disk.Disk
	node    asked // the one that was started last
	crashed bool  // since then: a node doesn't know it of itself
}

func newSite(o Opts, id int) *site {
	s := &site{id: id, opts: o.Node, disk: disk.New()}
	s.opts.Core.Nodes, s.opts.Core.ID = o.Nodes, id
	return s
}

// start makes a node of what stands on the disk; on an error the one ahead of it stays.
func (s *site) start(draw int) api.Errno {
	n, err := node.Open(s.opts, s.disk, draw)
	if err == api.OK {
		s.node, s.crashed = n, false
	}
	return err
}

// up tells whether its node is up.
func (s *site) up() bool { return !s.crashed && s.node.View().Up && !s.node.Done() }

// site is a node's; nil, if there is no such node.
func (w *World) site(id int) *site {
	if !within(id, 1, len(w.sites)) {
		return nil
	}
	return w.sites[id-1]
}

// Now is the time.
func (w *World) Now() int { return w.now }

// View tells how a node stands, and whether it is up.
func (w *World) View(id int) (node.View, bool) {
	s := w.site(id)
	if s == nil {
		return node.View{}, false
	}
	return s.node.View(), s.up()
}

// Get reads a node's store.
func (w *World) Get(id int, key string) api.Reply {
	s := w.site(id)
	if s == nil {
		return api.Reply{}
	}
	return s.node.Get(key)
}

// Log is a node's log.
func (w *World) Log(id int) (int, int, []api.Entry) {
	s := w.site(id)
	if s == nil {
		return 0, 0, nil
	}
	return s.node.Log()
}

// Files are a node's files.
func (w *World) Files(id int) []api.File {
	s := w.site(id)
	if s == nil {
		return nil
	}
	return s.disk.Files()
}

// Mail is what is on its way.
func (w *World) Mail() []net.Mail { return w.net.List() }

// Leader is the node that leads.
func (w *World) Leader() int {
	id, term := 0, 0
	for _, s := range w.sites {
		v := s.node.View().Core
		if s.up() && v.Role == api.Leader && v.Term > term {
			id, term = s.id, v.Term
		}
	}
	return id
}
