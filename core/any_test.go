package core_test

import (
	"testing"

	"synod/api"
)

// anything is a message of which little is held back: numbers are small ones, or lie at the ends of what may be.
func (p *player) anything() api.Message {
	r := p.r
	n := func() int {
		if r.IntN(12) == 0 {
			return top - r.IntN(3)
		}
		return r.IntN(14)
	}
	x := api.Message{Kind: 1 + r.IntN(7), From: 1 + r.IntN(p.m.o.Nodes), To: p.m.o.ID, Term: max(1, n())}
	if r.IntN(3) > 0 {
		x.Term = max(1, p.m.term)
	}
	switch x.Kind {
	case api.MVote, api.MApp:
		if x.Index = n(); x.Index > 0 {
			x.LogTerm = max(1, min(x.Term, r.IntN(6)))
		}
		if x.Kind == api.MApp {
			x.Commit = n()
			x.Entries = p.behind(x.Index, x.LogTerm, x.Term)
		}
	case api.MVoteAns:
		x.Reject = r.IntN(2) == 0
	case api.MAppAns:
		if x.Index, x.Reject = n(), r.IntN(2) == 0; x.Reject {
			x.Hint = n()
		}
	case api.MBeat:
		x.Commit, x.Ctx = n(), n()
	case api.MBeatAns:
		x.Ctx = n()
	case api.MSnap:
		x.Snap = api.Snap{Index: max(1, n()), Term: max(1, min(x.Term, r.IntN(6))), Data: p.data()}
	}
	return x
}

// Whatever is stepped, the marks keep their order (alike looks at them behind every call), and each entry is told to be
// applied once and in order (ready looks at that).
func TestP10_17_AnyMessages(t *testing.T) {
	t.Parallel()
	p := newPlayer(17)
	applied := 0
	for range 1500 {
		p.begin(t, false)
		begun := p.applying
		for range 150 {
			switch p.r.IntN(10) {
			case 0, 1, 2:
				p.step(p.anything())
			case 3:
				p.step(p.wrong())
			case 4:
				p.ready()
				p.synced(p.m.handedNumber)
			default:
				p.play()
			}
		}
		applied += min(1, p.applying-begun)
	}
	if applied < 500 {
		t.Errorf("%d cores alone have applied something", applied)
	}
	p.enough(t, 10)
}

// A log at its last index, and one that is full: nothing goes past them.
func TestP10_17_AtTheEnds(t *testing.T) {
	t.Parallel()
	p := newPlayer(18)
	for i := range 30 {
		o := opts(1, 3)
		o.Election, o.Pending = 3, api.MaxLog
		s, snap, n := api.State{Term: 3, Commit: top}, snapOf(top-9, 2, "s"), 8
		if i%2 == 0 {
			snap, n = snapOf(5, 2, "s"), api.MaxLog-2
		}
		p.duo = newDuo(t, p.calls, o, s, snap, many(n, 3, snap.Index+1), 0)
		p.eager = true
		for range 120 {
			p.play()
		}
	}
	for _, k := range []string{say("Propose", api.ErrLimit), say("Propose", api.ErrFull)} {
		if p.calls[k] == 0 {
			t.Errorf("%s: never", k)
		}
	}
}

// No call panics, at all ints.
func TestP10_17_AnyNumbers(t *testing.T) {
	for _, k := range []kit{blank(t, 1, 1), blank(t, 1, 3), some(t), leading(t, opts(1, 1)), serving(t, opts(1, 3)), compactable(t)} {
		for _, n := range append(far(), 0, 1, 2, top) {
			k.c.Tick(n)
			k.c.Synced(n)
			k.c.Applied(n)
			k.c.Match(n)
			k.c.Read(n)
			for _, other := range append(far(), 0, 1, top) {
				k.c.Compact(snapOf(n, other, "x"), other)
				k.c.Compact(snapOf(n, 1, "x"), other)
				k.c.Step(api.Message{Kind: n, From: other, To: 1, Term: n})
				for kind := range 9 {
					k.c.Step(api.Message{Kind: kind, From: 2, To: 1, Term: other, Index: n, LogTerm: n, Commit: n, Hint: n, Ctx: n})
				}
			}
			k.c.Ready()
		}
		k.done()
	}
}
