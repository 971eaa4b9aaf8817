package node

import (
	"synod/api"
	"synod/codec"
	"synod/frame"
	"synod/snap"
	"synod/wal"
)

// kept is how many snapshots stay on the disk.
const kept = 2

func (n *Node) write() ([]Event, bool) {
	j, ok := n.jobs.Take()
	if !ok {
		return nil, false
	}
	if err := n.put(j); err != api.OK {
		return n.fall(nil), true
	}
	n.held = append(n.held, j.rest())
	return nil, true
}

// rest is what of a job matters when it is written.
func (j job) rest() job {
	if j.saves() {
		return j
	}
	return job{number: j.number, after: j.after}
}

// put writes a job.
func (n *Node) put(j job) api.Errno {
	if j.saves() {
		return snap.Save(n.disk, j.snap)
	}
	if j.snap.Index > 0 {
		if err := n.install(j); err != api.OK {
			return err
		}
	}
	return n.wal.Append(wal.Batch{
		HasState: j.hasState, State: j.state,
		Index: j.snap.Index, Term: j.snap.Term, Entries: j.entries,
	})
}

// install saves a snapshot that came from the leader. Its term is durable ahead of it: behind a crash no snapshot is of a
// term that the node doesn't know. Its commitment is not: the log doesn't reach there without the snapshot.
func (n *Node) install(j job) api.Errno {
	if j.hasState {
		early := api.State{Term: j.state.Term, Vote: j.state.Vote, Commit: n.wal.View().State.Commit}
		if err := n.wal.Append(wal.Batch{HasState: true, State: early}); err != api.OK {
			return err
		}
		if err := n.wal.Sync(); err != api.OK {
			return err
		}
	}
	if err := snap.Save(n.disk, j.snap); err != api.OK {
		return err
	}
	n.snap = j.snap.Index
	return api.OK
}

func (n *Node) sync() ([]Event, bool) {
	if len(n.held) == 0 {
		return nil, false
	}
	if n.wal.Sync() != api.OK {
		return n.fall(nil), true
	}
	var told []Event
	number := 0
	for _, j := range n.held {
		if !j.saves() {
			n.post(j.after)
			n.notices.put(notice{kind: synced, number: j.number})
			number = j.number
			continue
		}
		if n.tidy(j.snap.Index) != api.OK {
			return n.fall(told), true
		}
		n.notices.put(notice{kind: saved, snap: j.snap})
		n.snap, n.onWay = j.snap.Index, false
		told = append(told, Event{Kind: ESnap, Number: j.snap.Index})
	}
	if number > 0 {
		n.synced = number
		told = append(told, Event{Kind: ESync, Number: number})
	}
	n.held = nil
	return told, true
}

// tidy removes from the disk what a snapshot stands for.
func (n *Node) tidy(index int) api.Errno {
	if _, err := n.wal.Compact(index); err != api.OK {
		return err
	}
	_, err := snap.Keep(n.disk, kept)
	return err
}

func (n *Node) send() ([]Event, bool) {
	lane, m, ok := n.out.Take()
	if !ok {
		return nil, false
	}
	// What a core says may be, and is short enough for a frame.
	text, _ := (codec.Messages{}).Put(m)
	b, _ := frame.Put(text)
	return []Event{{Kind: ESend, Number: lane + 1, Data: b}}, true
}
