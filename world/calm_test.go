package world_test

import (
	"fmt"
	"testing"

	"synod/api"
	"synod/node"
	"synod/world"
)

// byHand lets a calm round of a world pass by other acts; what they tell, and how many sweeps it took.
func byHand(w *world.World, o world.Opts, quick int, do func(world.Act) world.Told) ([]world.Event, int) {
	var told []world.Event
	up := func(id int) bool {
		_, up := w.View(id)
		return up
	}
	for id := 1; id <= o.Nodes; id++ {
		draw := 8 * o.Node.Core.Election
		if id == quick {
			draw = 0
		}
		if up(id) {
			do(tick(id, draw))
		}
	}
	for sweeps := 1; ; sweeps++ {
		did := false
		for id := 1; id <= o.Nodes; id++ {
			for kind := node.PNotice; kind <= node.PSend && up(id); kind++ {
				for n := 0; n < 10000; n++ {
					x := do(pick(id, kind))
					told = append(told, x.Events...)
					if !x.Did {
						break
					}
					did = true
				}
			}
		}
		for n := len(w.Mail()); n > 0; n-- {
			do(deliver(0))
			did = true
		}
		if !did || sweeps == 50 {
			return told, sweeps
		}
	}
}

// A calm round is what its acts by hand are: behind anything that happened.
func TestP15_5_ByHand(t *testing.T) {
	rounds, most := 0, 0
	for seed := range uint64(120) {
		p := newPlay(t, seed)
		other := with(t, p.o)
		for range 12 {
			for range p.r.IntN(40) {
				a := p.next()
				is(t, shownAll(p.do(a)), shownAll(other.Do(a)))
			}
			quick, n := 1+p.r.IntN(p.o.Nodes), 1+p.r.IntN(12)
			var want []world.Event
			for range n {
				events, sweeps := byHand(other, p.o, quick, other.Do)
				want = append(want, events...)
				most = max(most, sweeps)
			}
			is(t, shownAll(p.do(calm(quick, n))), shownAll(world.Told{Did: true, Events: want}))
			rounds += n
			for id := 1; id <= p.o.Nodes; id++ {
				is(t, toldOf(p.w, id), toldOf(other, id))
			}
			is(t, say(p.w.Mail()), say(other.Mail()))
		}
	}
	if rounds < 5000 || most < 10 {
		t.Errorf("%d rounds, %d sweeps at most", rounds, most)
	}
}

// The quick one stands first.
func TestP15_5_Quick(t *testing.T) {
	for quick := 1; quick <= 5; quick++ {
		w := made(t, 5)
		tells(t, w, calm(quick, 9), "ok")
		is(t, w.Leader(), 0)
		for id := 1; id <= 5; id++ {
			want := 90
			if id == quick {
				want = 10
			}
			is(t, say(view(t, w, id).Core.Timeout, view(t, w, id).Core.Elapsed), say(want, 9))
		}
		all(t, w, calm(quick, 1))
		is(t, say(w.Leader(), view(t, w, quick).Core.Term), say(quick, 1))
	}
	// One that isn't up leads not; the others stand when their time has come.
	w := made(t, 3)
	all(t, w, crash(2, 0), calm(2, 89))
	is(t, w.Leader(), 0)
	all(t, w, calm(2, 1))
	if view(t, w, 1).Core.Term == 0 || view(t, w, 3).Core.Term == 0 {
		t.Error("nobody stands")
	}
}

func TestP15_5_HowManyRounds(t *testing.T) {
	for _, n := range append(far(), 0, -2, 201, 202, 1000) {
		unchanged(t, made(t, 2), calm(1, n), err(api.ErrRange))
		unchanged(t, made(t, 2), calm(3, n), err(api.ErrNone))
	}
	for _, n := range []int{1, 2, 5, 9} {
		w := made(t, 3)
		all(t, w, calm(1, n))
		is(t, say(view(t, w, 1).Core.Elapsed, view(t, w, 2).Core.Elapsed), say(n, n))
		is(t, w.Now(), 1)
	}
	a, b := made(t, 3), made(t, 3)
	all(t, a, calm(2, 200), calm(2, 1))
	for range 201 {
		all(t, b, calm(2, 1))
	}
	is(t, toldOf(a, 1)+toldOf(a, 2)+toldOf(a, 3), toldOf(b, 1)+toldOf(b, 2)+toldOf(b, 3))
}

// A world in which nobody is up is calm; its mail is lost.
func TestP15_5_NobodyUp(t *testing.T) {
	w := candidate(t, 3)
	all(t, w, crash(1, 0), crash(2, 0), crash(3, 0))
	tells(t, w, calm(1, 200), "ok")
	is(t, routes(w), "")
}

// A round that replies at all tells the replies at the act's time.
func TestP15_5_Time(t *testing.T) {
	w := led(t, 3)
	all(t, w, put(1, 1, "a", "x"), put(2, 1, "b", "y"), calm(1, 7))
	history(t, w, `1 1 put a "x" "" 2 4 done`, `2 1 put b "y" "" 3 4 done`)
}

// idle holds that no node that is up has anything to do, and that no mail is there; of a copy of the world, made by its acts.
func idle(t *testing.T, o world.Opts, acts []world.Act) {
	t.Helper()
	w := with(t, o)
	for _, a := range acts {
		w.Do(a)
	}
	is(t, routes(w), "")
	for id := 1; id <= o.Nodes; id++ {
		if _, up := w.View(id); !up {
			continue
		}
		was := toldOf(w, id)
		for kind := node.PNotice; kind <= node.PSend; kind++ {
			unchanged(t, w, pick(id, kind), "no")
		}
		is(t, toldOf(w, id), was)
	}
}

// Behind a calm round nothing is left to do.
func TestP15_10_NothingLeft(t *testing.T) {
	rounds := 0
	for seed := range uint64(60) {
		p := newPlay(t, 1000+seed)
		other := with(t, p.o)
		for range 6 {
			for range p.r.IntN(30) {
				a := p.next()
				p.do(a)
				other.Do(a)
			}
			quick := 1 + p.r.IntN(p.o.Nodes)
			_, sweeps := byHand(other, p.o, quick, other.Do)
			p.do(calm(quick, 1))
			if sweeps < 50 {
				idle(t, p.o, p.acts)
				rounds++
			}
		}
	}
	if rounds < 300 {
		t.Errorf("%d rounds alone", rounds)
	}
}

// In calm rounds all that is sent over links that are up comes, if the queues have room.
func TestP15_10_NothingLost(t *testing.T) {
	for nodes := 1; nodes <= api.MaxNodes; nodes++ {
		o := opts(nodes)
		o.Clients = 8
		o.Node.Inbox, o.Node.Out = api.MaxQueue, api.MaxQueue
		w := with(t, o)
		all(t, w, calm(nodes, 10))
		for i := range 30 {
			for c := 1; c <= 8; c++ {
				all(t, w, put(c, nodes, fmt.Sprint("k", c), fmt.Sprint(i)))
			}
			all(t, w, calm(nodes, 1))
			for c := 1; c <= 8; c++ {
				tells(t, w, give(c), err(api.ErrThere))
				for id := 1; id <= nodes; id++ {
					is(t, w.Get(id, fmt.Sprint("k", c)).Value, fmt.Sprint(i))
				}
			}
		}
	}
}

// Over a link that is cut nothing comes.
func TestP15_10_CutLinks(t *testing.T) {
	w := led(t, 3)
	all(t, w, cut(1, 3), put(1, 1, "a", "x"), calm(1, 5))
	is(t, say(w.Get(2, "a"), w.Get(3, "a")), "{1 x} {2 }")
	all(t, w, link(3, 1), calm(1, 2))
	is(t, w.Get(3, "a"), "{1 x}")
}
