package node

import (
	"maps"
	"slices"

	"synod/api"
	"synod/core"
)

// debts are the calls that the core has taken, and that have no reply yet.
type debts struct {
	pending map[int]proposed // by index
	waiting map[int]asked    // reads, by the call's ID
	ready   []core.Read      // those of them that have an index, in the order in which they became ready
}

// proposed is a call whose command stands in the log.
type proposed struct{ id, term int }

// asked is a read of a key.
type asked struct{ key string }

func newDebts() debts {
	return debts{pending: make(map[int]proposed), waiting: make(map[int]asked)}
}

// replied tells a reply without a value.
func replied(id, code int) Event {
	return Event{Kind: EReply, Number: id, Reply: api.Reply{Code: code}}
}

// settle is what is pending at an index, and is so no longer.
func (d *debts) settle(index int) (proposed, bool) {
	p, ok := d.pending[index]
	delete(d.pending, index)
	return p, ok
}

// lose tells what is pending at an index that it is lost.
func (d *debts) lose(index int) []Event {
	p, ok := d.settle(index)
	if !ok {
		return nil
	}
	return []Event{replied(p.id, api.RLost)}
}

// loseUpTo tells all that is pending up to an index that it is lost.
func (d *debts) loseUpTo(index int) []Event {
	var told []Event
	for _, at := range slices.Sorted(maps.Keys(d.pending)) {
		if at <= index {
			told = append(told, d.lose(at)...)
		}
	}
	return told
}

// dropReads tells reads that the leader is another one.
func (d *debts) dropReads(ids []int) []Event {
	var told []Event
	for _, id := range ids {
		delete(d.waiting, id)
		told = append(told, replied(id, api.RLead))
	}
	return told
}

// answerReads answers the reads that are ready up to an index.
func (d *debts) answerReads(index int, get func(key string) api.Reply) []Event {
	var told []Event
	var left []core.Read
	for _, r := range d.ready {
		if r.Index > index {
			left = append(left, r)
			continue
		}
		told = append(told, Event{Kind: EReply, Number: r.ID, Reply: get(d.waiting[r.ID].key)})
		delete(d.waiting, r.ID)
	}
	d.ready = left
	return told
}
