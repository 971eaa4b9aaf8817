package node

import (
	"synod/api"
	"synod/codec"
	"synod/frame"
)

func (n *Node) takeNotice() ([]Event, bool) {
	x, ok := n.notices.peek()
	if !ok || x.kind == taken && n.jobs.Room() == 0 {
		return nil, false
	}
	n.notices.drop()
	switch x.kind {
	case synced:
		n.core.Synced(x.number)
	case applied:
		n.core.Applied(x.number)
	case taken:
		n.jobs.Put(job{snap: x.snap})
	case saved:
		n.core.Compact(x.snap, n.opts.Keep)
	}
	return nil, true
}

func (n *Node) takeWork() ([]Event, bool) {
	// Asked ahead: what Ready has told it doesn't tell again.
	if n.jobs.Room() == 0 || n.applies.Room() == 0 {
		return nil, false
	}
	w, ok := n.core.Ready()
	if !ok {
		return nil, false
	}
	n.post(w.Now)
	if w.Number > 0 {
		n.jobs.Put(job{w.Number, w.HasState, w.State, w.Snap, w.Entries, w.After})
	}
	if a := (apply{w.Snap, w.Apply, w.Reads}); a.changes() || len(a.reads) > 0 {
		n.applies.Put(a)
	}
	return n.dropReads(w.Dropped), true
}

func (n *Node) takeMessage() ([]Event, bool) {
	b, ok := n.inbox.Take()
	if !ok {
		return nil, false
	}
	// What isn't a message, or is refused, was spoilt on its way, or isn't for this node.
	if text, err := frame.One(b); err == api.OK {
		if m, err := (codec.Messages{}).Get(text); err == api.OK {
			n.core.Step(m)
		}
	}
	return nil, true
}

func (n *Node) takeTick() ([]Event, bool) {
	draw, ok := n.ticks.Take()
	if ok {
		n.core.Tick(draw)
	}
	return nil, ok
}

func (n *Node) takeCall() ([]Event, bool) {
	c, ok := n.calls.Take()
	switch {
	case !ok:
		return nil, false
	case c.Command.Op == api.OpGet:
		return n.read(c), true
	}
	return n.propose(c), true
}

func (n *Node) read(c Call) []Event {
	if err := n.core.Read(c.ID); err != api.OK {
		return refused(c.ID, err)
	}
	n.waiting[c.ID] = asked{key: c.Command.Key}
	return nil
}

func (n *Node) propose(c Call) []Event {
	// Call has let through only what has a text.
	text, _ := (codec.Commands{}).Put(c.Command)
	index, term, err := n.core.Propose(text)
	if err != api.OK {
		return refused(c.ID, err)
	}
	told := n.lose(index)
	n.pending[index] = proposed{id: c.ID, term: term}
	return told
}

// refused is what a call gets that the core doesn't take.
func refused(id int, err api.Errno) []Event {
	code := api.RBusy
	switch err {
	case api.ErrLead:
		code = api.RLead
	case api.ErrLimit:
		code = api.RLimit
	}
	return []Event{replied(id, code)}
}
