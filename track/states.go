package track

// acts is what a progress does in a state. To acked Match is told too, as it was ahead of the call.
type acts struct {
	may      func() bool
	sent     func(last int)
	acked    func(index, was int)
	rejected func(index, hint int) bool
	beat     func()
}

// now is what it does in the state that it is in.
func (p *Progress) now() acts { return p.table()[p.state] }

// table makes what it does, by state.
func (p *Progress) table() [3]acts {
	return [3]acts{
		Probe: {
			may:  func() bool { return !p.paused },
			sent: func(int) { p.paused = true },
			acked: func(index, was int) {
				if index >= was {
					p.restart(Replicate)
				}
			},
			rejected: p.stepBack,
			beat:     func() {},
		},
		Replicate: {
			may: func() bool { return !p.Full() },
			sent: func(last int) {
				if last >= p.next && p.Add(last) {
					p.next = last + 1
				}
			},
			acked: func(int, int) {},
			rejected: func(index, _ int) bool {
				if index <= p.match {
					return false
				}
				p.restart(Probe)
				return true
			},
			beat: func() {
				// One message is let through, so that a node whose answers were lost is heard of again.
				if p.Full() {
					p.Free(p.Items()[0])
				}
			},
		},
		Snapshot: {
			may:  func() bool { return false },
			sent: func(int) {},
			acked: func(int, int) {
				if p.match >= p.snap {
					p.restart(Probe)
				}
			},
			rejected: func(int, int) bool { return false },
			// The snapshot may be lost: what the node has is asked anew.
			beat: func() { p.restart(Probe) },
		},
	}
}

// stepBack tries an earlier index, down to the one behind Match.
func (p *Progress) stepBack(index, hint int) bool {
	if index != p.next-1 {
		return false
	}
	p.next = max(p.match+1, min(index, hint+1))
	p.paused = false
	return true
}
