package world_test

import (
	"slices"
	"testing"

	"synod/api"
	"synod/world"
)

// touches are the nodes whose view an act may change: the one that it names, or the one that its mail is for.
func touches(w *world.World, a world.Act) []int {
	switch a.Kind {
	case world.WTick, world.WPick, world.WCrash, world.WStart, world.WStop, world.WCall, world.WAgain:
		return []int{a.Node}
	case world.WDeliver:
		if l := w.Mail(); a.N >= 0 && a.N < len(l) {
			return []int{l[a.N].To}
		}
	}
	return nil
}

// An act changes nothing of a node that it doesn't name, nor that its mail is for.
func TestP15_8_Alone(t *testing.T) {
	done := map[int]int{}
	for seed := range uint64(60) {
		p := newPlay(t, 8000+seed)
		for range 250 {
			a := p.next()
			if a.Kind == world.WCalm {
				p.do(a)
				continue
			}
			may := touches(p.w, a)
			var was []string
			for id := 1; id <= p.o.Nodes; id++ {
				was = append(was, toldOf(p.w, id))
			}
			if p.do(a).Did {
				done[a.Kind]++
			}
			for id := 1; id <= p.o.Nodes; id++ {
				if !slices.Contains(may, id) && toldOf(p.w, id) != was[id-1] {
					t.Fatalf("seed %d: %v changes node %d\nfrom %s\nto %s", seed, a, id, was[id-1], toldOf(p.w, id))
				}
			}
		}
	}
	for _, kind := range kinds()[:15] {
		if done[kind] < 10 {
			t.Errorf("%d is done %d times alone", kind, done[kind])
		}
	}
}

// What a node does is the same, whatever is done beside it: acts of others come between its own.
func TestP15_8_OthersBetween(t *testing.T) {
	for seed := range uint64(40) {
		p := newPlay(t, 8500+seed)
		if p.o.Nodes == 1 {
			continue
		}
		other := with(t, p.o)
		me := 1 + p.r.IntN(p.o.Nodes)
		// Mail comes to nobody, as in the other world the others send none.
		for range 200 {
			a := p.next()
			switch {
			case a.Kind == world.WCalm || a.Kind == world.WDeliver:
			case a.Kind == world.WCall || a.Kind == world.WAgain || a.Kind == world.WGive:
				// The client is the same in both.
				if a.Node == me || a.Kind == world.WGive {
					is(t, shownAll(p.do(a)), shownAll(other.Do(a)))
				}
			case slices.Contains(touches(p.w, a), me) || a.Kind == world.WArm && a.Node == me:
				is(t, shownAll(p.do(a)), shownAll(other.Do(a)))
			default:
				p.do(a)
			}
			is(t, toldOf(p.w, me), toldOf(other, me))
		}
	}
}

// Run of the first acts tells what Run of all tells of them.
func TestP15_9_ABeginning(t *testing.T) {
	later := 0
	for seed := range uint64(30) {
		p := newPlay(t, 9000+seed)
		for range 120 {
			p.do(p.next())
		}
		all, ops, e := world.Run(p.o, p.acts)
		is(t, say(e, ops), say(api.OK, p.w.History()))
		for _, n := range []int{0, 1, 2, 3, p.r.IntN(120), p.r.IntN(120), p.r.IntN(120), 118, 119, 120} {
			told, some, e := world.Run(p.o, p.acts[:n])
			is(t, say(len(told), e), say(n, api.OK))
			is(t, say(told), say(all[:n]))
			for i, x := range some {
				want := ops[i]
				if want.Back > n {
					want.Back, want.Reply = 0, api.Reply{}
					later++
				}
				is(t, x, want)
			}
			for _, x := range ops[len(some):] {
				if x.Call <= n {
					t.Errorf("seed %d: %v isn't called in the first %d acts", seed, x, n)
				}
			}
		}
	}
	if later < 10 {
		t.Errorf("%d operations alone are answered later", later)
	}
}
