package world

import (
	"slices"

	"synod/api"
	"synod/node"
)

// desk is the clients, and what they called.
type desk struct {
	clients []*client // by their numbers, from 1 on
	ops     []api.Op  // the history
	calls   int       // the ID of the last call
}

// client is where a client stands.
type client struct {
	id  int
	seq int // that of its last write
	at  int // the operation that it is at, by its place in the history from 1 on; 0: none
	out int // the ID of that one's call that is out; 0: none is
}

func newDesk(clients int) desk {
	var d desk
	for id := 1; id <= clients; id++ {
		d.clients = append(d.clients, &client{id: id})
	}
	return d
}

// client is one by its number; nil, if there is no such client.
func (d *desk) client(id int) *client {
	if !within(id, 1, len(d.clients)) {
		return nil
	}
	return d.clients[id-1]
}

// caller is the client whose call with this ID is out; nil, if it is nobody's. (No call's ID is 0.)
func (d *desk) caller(id int) *client {
	for _, c := range d.clients {
		if c.out == id {
			return c
		}
	}
	return nil
}

// busy tells whether it is at an operation.
func (c *client) busy() bool { return c.at > 0 }

// leave lets it be at no operation; a reply to that one's call is nobody's from now on.
func (c *client) leave() { c.at, c.out = 0, 0 }

// begin lets a client be at a new operation.
func (d *desk) begin(c *client, x api.Op) {
	x.Client = c.id
	if x.Kind != api.OpGet {
		c.seq++
		x.Seq = c.seq
	}
	d.ops = append(d.ops, x)
	c.at = len(d.ops)
}

// command is what a node is asked for.
func command(x api.Op) api.Command {
	if x.Kind == api.OpGet {
		return api.Command{Op: x.Kind, Key: x.Key}
	}
	return api.Command{Op: x.Kind, Client: x.Client, Seq: x.Seq, Key: x.Key, Value: x.Value, Old: x.Old}
}

// callAt calls at a node the operation that a client is at.
func (w *World) callAt(s *site, c *client) []Event {
	w.calls++
	if !s.up() {
		return []Event{w.back(s, c, api.Reply{Code: api.RDown})}
	}
	reply, taken := s.node.Call(node.Call{ID: w.calls, Command: command(w.ops[c.at-1])})
	if !taken {
		return []Event{w.back(s, c, reply)}
	}
	c.out = w.calls
	return nil
}

// back lets a client get a reply of a node, and tells it.
func (w *World) back(s *site, c *client, r api.Reply) Event {
	c.out = 0
	if settles(r.Code) {
		x := &w.ops[c.at-1]
		x.Back, x.Reply = w.now, r
		c.leave()
	}
	return Event{Kind: EBack, Node: s.id, Client: c.id, Reply: r}
}

// settles tells whether an operation is answered by such a reply; behind another one it may be called again.
func settles(code int) bool {
	switch code {
	case api.RDone, api.RNone, api.ROther, api.ROld, api.RFull, api.RLimit:
		return true
	}
	return false
}

// History is the clients' operations.
func (w *World) History() []api.Op { return slices.Clone(w.ops) }
