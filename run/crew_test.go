package run_test

import (
	"slices"
	"testing"

	"synod/api"
	"synod/node"
	"synod/run"
)

// given is what Crew is given.
type given struct {
	o     node.Opts
	files [][]api.File
	draws []int
	acts  [][]node.Act
}

func (g given) crew(workers int) ([][]node.Told, [][]api.File, api.Errno) {
	return run.Crew(g.o, g.files, g.draws, g.acts, workers)
}

// ofTales is what Crew is given to tell the tales of a cluster, and what it has to tell.
func ofTales(l []tale) (g given, told [][]node.Told, left [][]api.File) {
	for _, x := range l {
		g.o = x.o
		g.files, g.draws, g.acts = append(g.files, x.files), append(g.draws, x.draw), append(g.acts, x.acts)
		told, left = append(told, x.told), append(left, x.left)
	}
	return g, told, left
}

// two is what Crew is given for two nodes of which each does something of its own.
func two() given {
	return given{
		opts(1, 2), make([][]api.File, 2), []int{0, 0},
		[][]node.Act{append(led(), picks(2, 6, 7, 9)...), {ticked(3), picked(node.PTick), picked(99)}},
	}
}

// The chapter's examples.
func TestP13_2_Examples(t *testing.T) {
	g := two()
	told, left, e := g.crew(2)
	is(t, say(e, len(told), len(left)), "0 2 2")
	for i := range told {
		want, files, _ := node.Play(opts(i+1, 2), nil, 0, g.acts[i])
		is(t, say(told[i], left[i]), say(want, files))
	}
	told, left, e = g.crew(0)
	is(t, say(e, told == nil, left == nil), say(api.ErrMany, true, true))
}

// A cluster that was picked by hand, by so many workers.
func TestP13_2_Clusters(t *testing.T) {
	t.Parallel()
	for seed := range uint64(40) {
		g, told, left := ofTales(tales(t, 500+seed, 1000))
		// The id is not the caller's.
		g.o.Core.ID = append(far(), 0, 1, 2, 9)[seed%12]
		for _, workers := range []int{1, 2, 3, 64} {
			have, files, e := g.crew(workers)
			is(t, say(e, say(have) == say(told), say(files) == say(left)), say(api.OK, true, true))
		}
	}
}

func TestP13_2_Workers(t *testing.T) {
	g := two()
	for _, workers := range append(far(), -1, 0, 65, 66, 128) {
		told, left, e := g.crew(workers)
		is(t, say(e, told == nil, left == nil), say(api.ErrMany, true, true))
	}
	for workers := 1; workers <= 64; workers++ {
		_, _, e := g.crew(workers)
		is(t, e, api.OK)
	}
}

// The lists are alike in number, or nothing is done.
func TestP13_2_Alike(t *testing.T) {
	for files := range 4 {
		for draws := range 4 {
			for acts := range 4 {
				told, left, e := run.Crew(opts(1, 5), make([][]api.File, files), make([]int, draws), make([][]node.Act, acts), 2)
				if files == draws && draws == acts {
					is(t, say(e, len(told), len(left)), say(api.OK, acts, acts))
					continue
				}
				is(t, say(e, told == nil, left == nil), say(api.ErrMany, true, true))
			}
		}
	}
}

func TestP13_2_NoNodes(t *testing.T) {
	wrong := opts(1, 1)
	wrong.Jobs = 0
	for _, o := range []node.Opts{opts(1, 1), wrong} {
		told, left, e := run.Crew(o, nil, nil, nil, 3)
		is(t, say(e, len(told), len(left)), "0 0 0")
		_, _, e = run.Crew(o, nil, nil, nil, 0)
		is(t, e, api.ErrMany)
		_, _, e = run.Crew(o, [][]api.File{}, []int{}, [][]node.Act{}, 65)
		is(t, e, api.ErrMany)
	}
}

// The error is that of the first node that has one, whichever ended first; too many goes ahead of all.
func TestP13_2_FirstError(t *testing.T) {
	name, there, file := []api.File{{Name: "A"}}, []api.File{{Name: "a"}, {Name: "a"}}, []api.File{{Name: "a", Synced: 1}}
	corrupt := []api.File{{Name: "wal-00000002"}}
	wrong := opts(1, 4)
	wrong.Out = 0
	for _, x := range []struct {
		o     node.Opts
		files [][]api.File
		want  api.Errno
	}{
		{opts(1, 4), [][]api.File{nil, nil, nil, nil}, api.OK},
		{opts(1, 4), [][]api.File{name, there, file, corrupt}, api.ErrName},
		{opts(1, 4), [][]api.File{corrupt, file, there, name}, api.ErrCorrupt},
		{opts(1, 4), [][]api.File{nil, file, there, name}, api.ErrRange},
		{opts(1, 4), [][]api.File{nil, nil, there, file}, api.ErrThere},
		{opts(1, 4), [][]api.File{nil, nil, nil, corrupt}, api.ErrCorrupt},
		// There are fewer nodes in the cluster than are played: the first one too many has an error.
		{opts(1, 3), [][]api.File{nil, nil, nil, nil}, api.ErrOpts},
		{opts(1, 2), [][]api.File{nil, nil, nil, corrupt}, api.ErrOpts},
		{opts(1, 2), [][]api.File{nil, nil, name, corrupt}, api.ErrName},
		{opts(1, 2), [][]api.File{nil, corrupt, nil, nil}, api.ErrCorrupt},
		{wrong, [][]api.File{nil, name, nil, nil}, api.ErrOpts},
		{wrong, [][]api.File{name, nil, nil, nil}, api.ErrName},
	} {
		// The ones ahead take longer than those behind them.
		g := given{x.o, x.files, make([]int, 4), [][]node.Act{busy(40), busy(20), busy(10), nil}}
		for _, workers := range []int{1, 2, 4, 64} {
			told, left, e := g.crew(workers)
			is(t, say(e, told == nil, left == nil), say(x.want, x.want != api.OK, x.want != api.OK))
		}
		_, _, e := g.crew(65)
		is(t, e, api.ErrMany)
		g.draws = g.draws[:3]
		_, _, e = g.crew(1)
		is(t, e, api.ErrMany)
	}
}

// One node after the other gets its own files, its own draw and its own acts.
func TestP13_2_ItsOwn(t *testing.T) {
	g := two()
	g.files[1] = crowd(3)
	g.draws = []int{0, 4}
	g.acts[1] = led()
	for range 10 {
		g.acts[1] = append(g.acts[1], ticked(0), picked(node.PTick), picked(node.PWork))
	}
	for _, swapped := range []bool{false, true} {
		if swapped {
			slices.Reverse(g.files)
			slices.Reverse(g.draws)
			slices.Reverse(g.acts)
		}
		told, left, e := g.crew(2)
		is(t, e, api.OK)
		for i := range told {
			want, files, _ := run.Play(opts(i+1, 2), g.files[i], g.draws[i], g.acts[i])
			is(t, say(told[i], left[i]), say(want, files))
		}
	}
}
