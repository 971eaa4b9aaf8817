package run_test

import (
	"slices"
	"sync"
	"testing"

	"synod/api"
	"synod/node"
	"synod/run"
)

// over writes a thing all over a list and its spare room.
func over[T any](l []T, x T) {
	for i := range l[:cap(l)] {
		l[:cap(l)][i] = x
	}
	_ = append(l, x, x, x)
}

func overTold(l []node.Told) {
	for _, x := range l {
		for _, e := range x.Events {
			over(e.Data, '!')
		}
		over(x.Events, node.Event{Kind: 77, Number: 77})
	}
	over(l, node.Told{Did: true, Reply: api.Reply{Code: 77}})
}

func overFiles(l []api.File) {
	for _, f := range l {
		over(f.Data, '!')
	}
	over(l, api.File{Name: "over"})
}

func overActs(l []node.Act) {
	for _, a := range l {
		over(a.Data, '!')
	}
	over(l, node.Act{Kind: 77})
}

// roomy is a list with something behind it in its memory.
func roomy[T any](l []T, behind T) []T {
	m := append(slices.Clone(l), behind, behind)
	return m[:len(l)]
}

// whole is a list with what lies behind it in its memory.
func whole[T any](l []T) []T { return l[:cap(l)] }

func roomyActs(l []node.Act) []node.Act {
	l = roomy(l, node.Act{Kind: node.AStop, Data: []byte("behind")})
	for i := range l {
		l[i].Data = roomy(l[i].Data, 'b')
	}
	return l
}

func roomyFiles(l []api.File) []api.File {
	l = roomy(l, api.File{Name: "BEHIND"})
	for i := range l {
		l[i].Data = roomy(l[i].Data, 'b')
	}
	return l
}

// shownActs is acts as text, with what lies behind all lists.
func shownActs(l []node.Act) string {
	s := say(whole(l))
	for _, a := range l {
		s += say(whole(a.Data))
	}
	return s
}

func shownFiles(l []api.File) string {
	s := say(whole(l))
	for _, f := range l {
		s += say(whole(f.Data))
	}
	return s
}

// roomyGiven is what Crew is given for a cluster, all lists with something behind them.
func roomyGiven(t *testing.T, seed uint64) given {
	t.Helper()
	l := tales(t, seed, 1000)
	for i := range l {
		l[i].files = crowd(3)
	}
	g, _, _ := ofTales(l)
	for i := range g.acts {
		g.acts[i], g.files[i] = roomyActs(g.acts[i]), roomyFiles(g.files[i])
	}
	g.acts = roomy(g.acts, []node.Act{stopped()})
	g.files = roomy(g.files, []api.File{{Name: "BEHIND"}})
	g.draws = roomy(g.draws, 77)
	return g
}

// shown is all that is given as text, with what lies behind all lists.
func (g given) shown() string {
	s := say(g.o, whole(g.draws), len(whole(g.acts)), len(whole(g.files)))
	for _, l := range whole(g.acts) {
		s += shownActs(l)
	}
	for _, l := range whole(g.files) {
		s += shownFiles(l)
	}
	return s
}

// What is given to Play isn't changed and isn't kept; what it answers is new.
func TestP13_4_Play(t *testing.T) {
	g := roomyGiven(t, 701)
	for i := range g.acts {
		was := g.shown()
		o := g.o
		o.Core.ID = i + 1
		told, left, e := run.Play(o, g.files[i], g.draws[i], g.acts[i])
		first := say(told, left)
		is(t, say(e, g.shown() == was), "0 true")
		again, right, _ := run.Play(o, g.files[i], g.draws[i], g.acts[i])
		overTold(told)
		overFiles(left)
		is(t, say(say(again, right) == first, g.shown() == was), "true true")
		overActs(g.acts[i])
		overFiles(g.files[i])
		is(t, say(again, right) == first, true)
		apart(t, again, right)
	}
}

// apart holds that of the lists of one answer none shows another one.
func apart(t *testing.T, told []node.Told, files []api.File) {
	t.Helper()
	for i := range told {
		rest := told[i+1 : min(len(told), i+30)]
		was := say(rest)
		overTold(told[i : i+1 : i+1])
		is(t, say(rest) == was, true)
	}
	for i := range files {
		was := say(files[i+1:])
		over(files[i].Data, '!')
		is(t, say(files[i+1:]) == was, true)
	}
	was := say(files)
	over(told, node.Told{})
	is(t, say(files) == was, true)
}

func TestP13_4_Crew(t *testing.T) {
	for _, workers := range []int{1, 3} {
		g := roomyGiven(t, 702)
		was := g.shown()
		told, left, e := g.crew(workers)
		first := say(told, left)
		is(t, say(e, g.shown() == was), "0 true")
		again, right, _ := g.crew(workers)
		for i := range told {
			ahead := say(told[i+1:], left)
			overTold(told[i])
			is(t, say(told[i+1:], left) == ahead, true)
		}
		for i := range left {
			ahead := say(left[i+1:])
			overFiles(left[i])
			is(t, say(left[i+1:]) == ahead, true)
		}
		over(told, nil)
		over(left, nil)
		is(t, say(say(again, right) == first, g.shown() == was), "true true")
		for i := range g.acts {
			overActs(g.acts[i])
			overFiles(g.files[i])
		}
		over(g.draws, 77)
		over(g.acts, nil)
		over(g.files, nil)
		is(t, say(again, right) == first, true)
	}
}

// Two nodes may be given the same lists.
func TestP13_4_CrewOfTheSame(t *testing.T) {
	acts, files := roomyActs(busy(5)), roomyFiles(crowd(2))
	g := given{opts(1, 3), [][]api.File{files, files, files}, []int{0, 0, 0}, [][]node.Act{acts, acts, acts}}
	told, left, e := g.crew(3)
	is(t, e, api.OK)
	for i := range told {
		want, right, _ := run.Play(opts(i+1, 3), files, 0, acts)
		is(t, say(told[i], left[i]) == say(want, right), true)
		overTold(told[i])
		overFiles(left[i])
	}
}

func TestP13_4_Merge(t *testing.T) {
	one := node.Act{Kind: node.ADeliver, Data: []byte("abc")}
	lists := [][]node.Act{roomyActs([]node.Act{one, one, {Data: []byte("d")}}), roomyActs([]node.Act{one}), nil}
	// The same list twice: each of its acts has its own data all the same.
	lists = roomy(append(lists, lists[0]), []node.Act{stopped()})
	shown := func() string {
		s := say(whole(lists))
		for _, l := range lists {
			s += shownActs(l)
		}
		return s
	}
	was := shown()
	l := run.Merge(lists)
	m := run.Merge(lists)
	first := say(m)
	is(t, say(say(l) == first, shown() == was), "true true")
	for i := range l {
		rest := say(l[i+1:])
		over(l[i].Data, '!')
		is(t, say(l[i+1:]) == rest, true)
	}
	overActs(l)
	is(t, say(say(m) == first, shown() == was), "true true")
	for _, x := range lists {
		overActs(x)
	}
	over(lists, nil)
	is(t, say(m) == first, true)
}

// One list alone is not handed out again.
func TestP13_4_MergeOfOne(t *testing.T) {
	l := roomyActs([]node.Act{{Data: []byte("a")}, {Data: []byte("b")}})
	was := shownActs(l)
	overActs(run.Merge([][]node.Act{l}))
	is(t, shownActs(l) == was, true)
}

// Several goroutines call all of these, with the same things.
func TestP13_4_Several(t *testing.T) {
	g := roomyGiven(t, 703)
	was := g.shown()
	o := g.o
	o.Core.ID = 1
	call := func() string {
		told, left, e := run.Play(o, g.files[0], g.draws[0], g.acts[0])
		all, files, f := g.crew(2)
		return say(told, left, e, all, files, f, run.Merge(g.acts))
	}
	want := call()
	have := make([]string, 12)
	var wait sync.WaitGroup
	for i := range have {
		wait.Go(func() { have[i] = call() })
	}
	wait.Wait()
	for _, s := range have {
		is(t, s == want, true)
	}
	is(t, g.shown() == was, true)
}
