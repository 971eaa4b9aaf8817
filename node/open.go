package node

import (
	"synod/api"
	"synod/core"
	"synod/disk"
	"synod/kv"
	"synod/snap"
	"synod/wal"
)

// Opts are a node's options.
type Opts struct {
	Core                 core.Opts
	Every, Keep, Segment int
	Inbox, Ticks, Calls  int
	Jobs, Applies, Out   int
}

// leastSegment is how few bytes a segment of the wal may be told.
const leastSegment = 64

// mayBe tells whether there may be a node with these options.
func (o Opts) mayBe() bool {
	for _, room := range []int{o.Inbox, o.Ticks, o.Calls, o.Jobs, o.Applies, o.Out} {
		if !within(room, 1, api.MaxQueue) {
			return false
		}
	}
	// A core of nothing is refused for its options alone.
	_, err := core.New(o.Core, api.State{}, api.Snap{}, nil, 0)
	return err == api.OK && within(o.Every, 0, api.MaxLog) && within(o.Keep, 0, api.MaxLog) &&
		within(o.Segment, leastSegment, api.MaxFrame)
}

func within(n, least, most int) bool { return n >= least && n <= most }

// Open makes a node of what stands on a disk.
func Open(o Opts, d *disk.Disk, draw int) (*Node, api.Errno) {
	if !o.mayBe() {
		return nil, api.ErrOpts
	}
	w, _, err := wal.Open(d, o.Segment)
	if err != api.OK {
		return nil, err
	}
	s, _, err := snap.Load(d)
	if err != api.OK && err != api.ErrNone {
		return nil, err
	}
	if err := agree(w, s); err != api.OK {
		return nil, err
	}
	store, err := storeOf(s)
	if err != api.OK {
		return nil, err
	}
	v := w.View()
	c, err := core.New(o.Core, v.State, s, above(v.Entries, s.Index), draw)
	if err != api.OK {
		return nil, err
	}
	n := &Node{opts: o, up: true, queues: newQueues(o), debts: newDebts(), core: c}
	n.writerOwns = writerOwns{disk: d, wal: w, snap: s.Index}
	n.applierOwns = applierOwns{store: store, stored: place{s.Index, s.Term}, latest: s.Index}
	n.steps = stepsOf(n)
	return n, api.OK
}

// agree lets the wal have what a snapshot stands for: a crash may have come between the snapshot and its mark.
func agree(w *wal.Wal, s api.Snap) api.Errno {
	v := w.View()
	switch {
	case s.Index < v.Base:
		return api.ErrCorrupt
	case has(v, s):
		return api.OK
	}
	if err := w.Append(wal.Batch{Index: s.Index, Term: s.Term}); err != api.OK {
		return err
	}
	return w.Sync()
}

// has tells whether a view has a snapshot that isn't below its base.
func has(v wal.View, s api.Snap) bool {
	at := s.Index - v.Base
	switch {
	case s.Index == 0:
		return true
	case at == 0:
		return v.BaseTerm == s.Term || v.BaseTerm == 0
	}
	return at <= len(v.Entries) && v.Entries[at-1].Term == s.Term
}

// above is the entries above an index.
func above(entries []api.Entry, index int) []api.Entry {
	for i, e := range entries {
		if e.Index > index {
			return entries[i:]
		}
	}
	return nil
}

// storeOf is the store that a snapshot stands for.
func storeOf(s api.Snap) (*kv.Store, api.Errno) {
	if s.Index == 0 {
		return kv.New(), api.OK
	}
	store, err := kv.Restore(s.Data)
	if err != api.OK {
		return nil, api.ErrCorrupt
	}
	return store, api.OK
}
