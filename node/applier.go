package node

import (
	"synod/api"
	"synod/codec"
	"synod/kv"
)

// changes tells whether it changes the store, or up to where the store has all.
func (a apply) changes() bool { return a.snap.Index > 0 || len(a.entries) > 0 }

func (n *Node) takeApply() ([]Event, bool) {
	a, ok := n.applies.Take()
	if !ok {
		return nil, false
	}
	var told []Event
	if a.snap.Index > 0 {
		told = n.restore(a.snap)
	}
	for _, e := range a.entries {
		told = append(told, n.apply(e)...)
	}
	n.ready = append(n.ready, a.reads...)
	if a.changes() {
		n.notices.put(notice{kind: applied, number: n.stored.index})
	}
	told = append(told, n.answerReads(n.stored.index, n.store.Get)...)
	n.takeSnapshot()
	return told, true
}

// restore takes a snapshot that came from the leader in the place of the store.
func (n *Node) restore(s api.Snap) []Event {
	store, err := kv.Restore(s.Data)
	if err != api.OK {
		store = kv.New()
	}
	n.store, n.stored, n.latest = store, place{s.Index, s.Term}, s.Index
	return n.loseUpTo(s.Index)
}

// apply lets the store do an entry.
func (n *Node) apply(e api.Entry) []Event {
	told := []Event{{Kind: EApply, Number: e.Index}}
	reply, done := n.do(e)
	n.stored = place{e.Index, e.Term}
	p, ok := n.settle(e.Index)
	switch {
	case !ok:
		return told
	case !done, p.term != e.Term: // another entry stands in the call's place
		return append(told, replied(p.id, api.RLost))
	}
	return append(told, Event{Kind: EReply, Number: p.id, Reply: reply})
}

// do does an entry's command; false, if it has none.
func (n *Node) do(e api.Entry) (api.Reply, bool) {
	if e.Kind != api.ECommand {
		return api.Reply{}, false
	}
	c, err := (codec.Commands{}).Get(e.Data)
	if err != api.OK {
		return api.Reply{}, false
	}
	reply, err := n.store.Do(c)
	return reply, err == api.OK
}

// takeSnapshot takes one of the store, if it is time for it.
func (n *Node) takeSnapshot() {
	if n.opts.Every == 0 || n.onWay || n.stored.index-n.latest < n.opts.Every {
		return
	}
	n.onWay, n.latest = true, n.stored.index
	s := api.Snap{Index: n.stored.index, Term: n.stored.term, Data: n.store.Snapshot()}
	n.notices.put(notice{kind: taken, snap: s})
}
