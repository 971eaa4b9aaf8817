package world

import "synod/node"

const (
	mostRounds = 200   // of one act
	mostSweeps = 50    // of one round
	mostPicks  = 10000 // of one kind in a sweep, of a node
	slow       = 8     // the draw of all but the quick one, in times Election
)

// round lets a calm round pass.
func (w *World) round(quick int) []Event {
	w.tickAll(quick)
	var told []Event
	for range mostSweeps {
		events, did := w.sweep()
		told = append(told, events...)
		if !did {
			break
		}
	}
	return told
}

func (w *World) tickAll(quick int) {
	for _, s := range w.sites {
		draw := slow * s.opts.Core.Election
		if s.id == quick {
			draw = 0
		}
		if s.up() {
			s.node.Tick(draw)
		}
	}
}

// sweep lets all nodes do what they have to do, and brings the mail; whether there was anything.
func (w *World) sweep() ([]Event, bool) {
	var told []Event
	did := false
	for _, s := range w.sites {
		if !s.up() {
			continue
		}
		for kind := node.PNotice; kind <= node.PSend; kind++ {
			events, ok := w.pickOut(s, kind)
			told = append(told, events...)
			did = did || ok
		}
	}
	mails := w.net.Len()
	for range mails {
		w.deliver(Act{N: 0})
	}
	return told, did || mails > 0
}

// pickOut picks a kind until that does nothing.
func (w *World) pickOut(s *site, kind int) ([]Event, bool) {
	var told []Event
	for i := range mostPicks {
		x := w.pick(s, Act{N: kind})
		told = append(told, x.Events...)
		if !x.Did {
			return told, i > 0
		}
	}
	return told, true
}
