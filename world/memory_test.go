package world_test

import (
	"slices"
	"testing"

	"synod/api"
	"synod/node"
	"synod/world"
)

// scribble writes all over a list and its spare room, and behind it.
func scribble[T any](l []T, x T) {
	for i := range l[:cap(l)] {
		l[:cap(l)][i] = x
	}
	_ = append(l, x, x)
}

// scribbleAll writes all over what a world tells of itself.
func scribbleAll(w *world.World, nodes int) {
	scribble(w.History(), api.Op{Client: 9, Key: "zz", Back: 77})
	l := w.Mail()
	for _, m := range l {
		scribble(m.Data, 0xee)
	}
	clear(l)
	for id := 1; id <= nodes; id++ {
		_, _, entries := w.Log(id)
		for _, e := range entries {
			scribble(e.Data, 0xee)
		}
		scribble(entries, api.Entry{Term: 99, Index: 99})
		files := w.Files(id)
		for _, f := range files {
			scribble(f.Data, 0xee)
		}
		scribble(files, api.File{Name: "zz", Synced: 3})
	}
}

// Whatever is written into what a world answered, the world doesn't show it.
func TestP15_7_AnswersAreNew(t *testing.T) {
	for seed := range uint64(25) {
		p := newPlay(t, 7000+seed)
		other := with(t, p.o)
		for range 120 {
			a := p.next()
			x, y := p.do(a), other.Do(a)
			is(t, shownAll(x), shownAll(y))
			scribble(x.Events, world.Event{Kind: 99})
			scribbleAll(p.w, p.o.Nodes)
		}
		is(t, told(p.w, p.o.Nodes), told(other, p.o.Nodes))
	}
}

// Two answers share nothing, and neither changes when the world goes on.
func TestP15_7_AnswersStay(t *testing.T) {
	w := led(t, 3)
	all(t, w, put(1, 1, "a", "x"), pick(1, node.PCall), pick(1, node.PWork), pick(1, node.PSend), pick(1, node.PSend), get(2, 1, "a"))
	look := func() []any {
		_, _, entries := w.Log(1)
		return []any{w.History(), w.Mail(), entries, w.Files(1)}
	}
	kept := look()
	was := say(kept...)
	scribbleAll(w, 3)
	is(t, say(kept...), was)
	all(t, w, spoil(0, 0), calm(1, 2), put(1, 1, "a", "y"), calm(1, 2), crash(1, 0))
	is(t, say(kept...), was)
	x := w.Do(calm(2, 3))
	events := slices.Clone(x.Events)
	all(t, w, calm(2, 120))
	is(t, say(x.Events), say(events))
}

// What Run is handed is neither changed nor kept, and what lies behind it isn't read; what it answers is new.
func TestP15_7_Run(t *testing.T) {
	acts := append(someActs(), crash(1, 0), calm(1, 1))
	n := len(acts) - 2
	was := slices.Clone(acts)
	told, ops, e := world.Run(opts(3), acts[:n])
	is(t, say(len(told), e), say(n, api.OK))
	is(t, say(acts), say(was))
	want := say(told, ops)
	scribble(acts, world.Act{Kind: 99})
	is(t, say(told, ops), want)
	again, history, _ := world.Run(opts(3), was[:n])
	for i := range told {
		scribble(told[i].Events, world.Event{Kind: 99})
	}
	scribble(told, world.Told{Did: true})
	scribble(ops, api.Op{Client: 99})
	is(t, say(again, history), want)
}

// The events of one act share nothing with those of another one of the same answer.
func TestP15_7_ToldShareNothing(t *testing.T) {
	told, _, _ := world.Run(opts(3), someActs())
	for i := range told {
		want := say(told[i+1:])
		scribble(told[i].Events, world.Event{Kind: 99})
		is(t, say(told[i+1:]), want)
	}
}
