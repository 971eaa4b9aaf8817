package run_test

import (
	"runtime"
	"slices"
	"testing"

	"synod/api"
	"synod/node"
	"synod/run"
)

// Again and again, on one processor or on several: the same.
func TestP13_5_Again(t *testing.T) {
	l := manyTales(t, 800, 8, 800)
	for _, processors := range []int{1, 2, 8} {
		was := runtime.GOMAXPROCS(processors)
		for range 5 {
			for _, x := range l {
				plays(t, x)
			}
		}
		runtime.GOMAXPROCS(was)
	}
}

// While others play, too.
func TestP13_5_Beside(t *testing.T) {
	for _, x := range manyTales(t, 850, 10, 1000) {
		t.Run("", func(t *testing.T) {
			t.Parallel()
			for range 3 {
				plays(t, x)
			}
		})
	}
}

// However many workers there are, each node's answers are those of Play alone.
func TestP13_5_Crew(t *testing.T) {
	t.Parallel()
	for seed := range uint64(6) {
		g, _, _ := ofTales(tales(t, 900+seed, 600))
		var told [][]node.Told
		var left [][]api.File
		for i := range g.acts {
			o := g.o
			o.Core.ID = i + 1
			x, files, _ := run.Play(o, g.files[i], g.draws[i], g.acts[i])
			told, left = append(told, x), append(left, files)
		}
		want := say(told, left)
		for workers := 1; workers <= 64; workers++ {
			have, files, e := g.crew(workers)
			is(t, say(e, say(have, files) == want), "0 true")
		}
	}
}

// What the first acts tell is what they tell alone; the files are those of node.Play of these.
func TestP13_6_Beginning(t *testing.T) {
	t.Parallel()
	for _, x := range manyTales(t, 1000, 6, 400) {
		for n := range len(x.acts) + 1 {
			told, left, e := run.Play(x.o, x.files, x.draw, x.acts[:n])
			is(t, say(e, say(told) == say(x.told[:n])), "0 true")
			if n%10 == 0 {
				_, files, _ := node.Play(x.o, x.files, x.draw, x.acts[:n])
				is(t, say(left) == say(files), true)
			}
		}
	}
}

// rounds are those of chapter 12 behind a stop.
func rounds(o node.Opts) []node.Act {
	l := []node.Act{stopped()}
	for range o.Jobs + o.Applies + o.Core.Nodes*o.Out + 8 {
		l = append(l, picks(node.PNotice, node.PWrite, node.PSync, node.PApply, node.PSend)...)
	}
	return l
}

// ends is the tasks that told their end, and whether the node went down.
func ends(told []node.Told) (tasks []int, down bool) {
	for _, x := range told {
		for _, e := range x.Events {
			switch e.Kind {
			case node.EEnd:
				tasks = append(tasks, e.Number)
			case node.EDown:
				down = true
			}
		}
	}
	slices.Sort(tasks)
	return tasks, down
}

func TestP13_7_Ended(t *testing.T) {
	t.Parallel()
	ended, fell := 0, 0
	for _, x := range manyTales(t, 1100, 60, 800) {
		for _, n := range []int{0, 1, len(x.acts) / 3, len(x.acts) / 2, len(x.acts)} {
			acts := append(slices.Clone(x.acts[:n]), rounds(x.o)...)
			told, _, e := run.Play(x.o, x.files, x.draw, acts)
			is(t, say(e, len(told)), say(api.OK, len(acts)))
			tasks, down := ends(told)
			if down {
				fell++
				continue
			}
			ended++
			is(t, tasks, []int{1, 2, 3, 4})
		}
	}
	if ended < 300 || fell < 5 {
		t.Errorf("%d ended, %d went down", ended, fell)
	}
}

// In the order in which they may end: the loop first, the sender behind the writer, who does first what is left.
func TestP13_7_Order(t *testing.T) {
	for _, x := range []struct {
		acts []node.Act
		want []int
	}{
		{nil, []int{1, 2, 3, 4}},
		{led(), []int{1, 2, 3, 4}},
		{append(led(), picked(node.PWork)), []int{1, 3, 2, 4}},
		{append(led(), picks(node.PWork, node.PWrite)...), []int{1, 3, 2, 4}},
		{append(led(), picks(node.PWork, node.PWrite, node.PSync)...), []int{1, 2, 3, 4}},
	} {
		told, _, _ := run.Play(opts(1, 1), nil, 0, append(x.acts, rounds(opts(1, 1))...))
		var l []int
		for _, y := range told {
			for _, e := range y.Events {
				if e.Kind == node.EEnd {
					l = append(l, e.Number)
				}
			}
		}
		is(t, l, x.want)
	}
}
