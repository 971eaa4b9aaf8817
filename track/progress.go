package track

import "synod/queue"

// Progress is what a leader knows of a node.
type Progress struct {
	*queue.Window // the last indices of messages that were sent in Replicate
	state         int
	match, next   int
	paused        bool
	snap          int // what Snap was told last
}

// NewProgress makes one that knows nothing.
func NewProgress(next, room int) *Progress {
	window := queue.NewWindow(room)
	if window == nil {
		return nil
	}
	return &Progress{Window: window, state: Probe, next: max(1, next)}
}

// Match is up to where the node has all.
func (p *Progress) Match() int { return p.match }

// Next is what is sent next.
func (p *Progress) Next() int { return p.next }

// State tells what it is in.
func (p *Progress) State() int { return p.state }

// May tells whether something may be sent.
func (p *Progress) May() bool { return p.now().may() }

// Sent tells that entries were sent.
func (p *Progress) Sent(last int) { p.now().sent(last) }

// Acked tells that the node has all up to an index.
func (p *Progress) Acked(index int) bool {
	was := p.match
	p.match = max(was, index)
	p.next = max(p.next, p.match+1)
	p.paused = false
	p.Free(index)
	p.now().acked(index, was)
	return index > was
}

// Rejected tells that the node hasn't an index.
func (p *Progress) Rejected(index, hint int) bool { return p.now().rejected(index, hint) }

// Beat tells that the node has answered a beat.
func (p *Progress) Beat() {
	p.paused = false
	p.now().beat()
}

// Snap tells that a snapshot was sent.
func (p *Progress) Snap(index int) {
	p.state, p.snap = Snapshot, index
	p.Clear()
}

// restart goes on behind Match, in another state.
func (p *Progress) restart(state int) {
	p.state, p.paused, p.next = state, false, p.match+1
	p.Clear()
}
