package run_test

import (
	"slices"
	"testing"

	"synod/api"
	"synod/node"
	"synod/run"
)

// plays holds that Play tells what a tale tells.
func plays(t *testing.T, x tale) {
	t.Helper()
	told, left, e := run.Play(x.o, x.files, x.draw, x.acts)
	is(t, say(e, len(told)), say(api.OK, len(x.acts)))
	for i := range told {
		if have, want := say(told[i]), say(x.told[i]); have != want {
			t.Fatalf("act %d, %v: %s; by hand %s", i, x.acts[i], have, want)
		}
	}
	is(t, say(left) == say(x.left), true)
}

// The chapter's first example.
func TestP13_1_Example(t *testing.T) {
	acts := slices.Concat(led(), picks(node.PWork, node.PWrite, node.PSync))
	told, files, e := run.Play(opts(1, 1), nil, 0, acts)
	is(t, say(e, len(told)), "0 23")
	for _, x := range told[:22] {
		is(t, say(x.Did, x.Reply, x.Events), "true {0 } []")
	}
	is(t, say(told[22]), say(node.Told{Did: true, Events: []node.Event{{Kind: node.ESync, Number: 1}}}))
	want, left, _ := node.Play(opts(1, 1), nil, 0, acts)
	is(t, say(told, files), say(want, left))
}

// The examples of chapter 12, all of them in one play.
func TestP13_1_Chapter12(t *testing.T) {
	acts := slices.Concat(
		led(), picks(node.PNotice, node.PWork, node.PWork),
		[]node.Act{called(puts(7, "a", "x")), picked(node.PCall)},
		picks(node.PWrite, node.PSync, node.PNotice, node.PWork, node.PApply),
		picks(node.PWrite, node.PSync, node.PNotice, node.PNotice, node.PWork, node.PApply),
		[]node.Act{called(gets(8, "a"))}, picks(node.PCall, node.PWork, node.PApply),
		[]node.Act{called(node.Call{ID: 9, Command: api.Command{Op: api.OpPut, Client: 1, Key: "a"}})},
		[]node.Act{{Kind: node.ADeliver}}, picks(node.PInbox, 10),
	)
	yes := node.Told{Did: true}
	event := func(l ...node.Event) node.Told { return node.Told{Did: true, Events: l} }
	want := slices.Concat(
		slices.Repeat([]node.Told{yes}, 20), []node.Told{{}, yes, {}, yes, yes, yes},
		[]node.Told{event(node.Event{Kind: node.ESync, Number: 1}), yes, yes, event(node.Event{Kind: node.EApply, Number: 1})},
		[]node.Told{yes, event(node.Event{Kind: node.ESync, Number: 2}), yes, yes, yes},
		[]node.Told{event(
			node.Event{Kind: node.EApply, Number: 2},
			node.Event{Kind: node.EReply, Number: 7, Reply: api.Reply{Code: api.RDone}},
		)},
		[]node.Told{yes, yes, yes, event(node.Event{Kind: node.EReply, Number: 8, Reply: api.Reply{Code: api.RDone, Value: "x"}})},
		[]node.Told{{Reply: api.Reply{Code: api.RLimit}}, yes, yes, {}},
	)
	told, _, e := run.Play(opts(1, 1), nil, 0, acts)
	is(t, say(e, told), say(api.OK, want))
}

// The chapter's second example.
func TestP13_1_Nothing(t *testing.T) {
	for _, acts := range [][]node.Act{nil, {}} {
		told, files, e := run.Play(opts(1, 1), nil, 0, acts)
		_, want, _ := node.Play(opts(1, 1), nil, 0, nil)
		is(t, say(e, len(told), len(files), files), say(api.OK, 0, 1, want))
	}
}

// Whatever is done to a node: what it tells is what it tells that is picked by hand.
func TestP13_1_ByHand(t *testing.T) {
	t.Parallel()
	l := manyTales(t, 100, 60, 1500)
	for _, x := range l {
		plays(t, x)
		want, left, _ := node.Play(x.o, x.files, x.draw, x.acts)
		is(t, say(want, left) == say(x.told, x.left), true)
	}
	enough(t, l, 40, 5)
}

// A second life, of the files of the first one.
func TestP13_1_Files(t *testing.T) {
	t.Parallel()
	for _, x := range manyTales(t, 300, 20, 1500) {
		told, left, e := run.Play(x.o, x.left, x.draw, x.acts)
		want, files, f := node.Play(x.o, x.left, x.draw, x.acts)
		is(t, say(told, left, e) == say(want, files, f), true)
	}
}

// Any draw, at first and in the ticks.
func TestP13_1_Draw(t *testing.T) {
	for _, draw := range append(far(), 0, 1, 5, 80, 81) {
		var acts []node.Act
		for range 60 {
			acts = append(acts, ticked(draw), picked(node.PTick), picked(node.PWork), picked(node.PWrite), picked(node.PSync))
		}
		told, left, e := run.Play(opts(1, 1), nil, draw, acts)
		want, files, f := node.Play(opts(1, 1), nil, draw, acts)
		is(t, say(told, left, e) == say(want, files, f), true)
	}
}

// The errors, and nothing beside them: those of the files, then those of Open.
func TestP13_1_Errors(t *testing.T) {
	wrong := opts(1, 1)
	wrong.Out = 0
	for _, x := range []struct {
		o     node.Opts
		files []api.File
		want  api.Errno
	}{
		{opts(1, 1), []api.File{{Name: "A"}}, api.ErrName},
		{opts(1, 1), []api.File{{Name: "a"}, {Name: "a"}}, api.ErrThere},
		{opts(1, 1), []api.File{{Name: "a", Synced: 1}}, api.ErrRange},
		{opts(1, 1), crowd(api.MaxFiles + 1), api.ErrFull},
		{opts(1, 1), crowd(api.MaxFiles), api.ErrFull},
		{wrong, []api.File{{Name: "A"}}, api.ErrName},
		{wrong, nil, api.ErrOpts},
		{wrong, []api.File{{Name: "wal-00000002"}}, api.ErrOpts},
		{opts(2, 1), nil, api.ErrOpts},
		{opts(0, 1), nil, api.ErrOpts},
		{opts(1, 1), []api.File{{Name: "wal-00000002"}}, api.ErrCorrupt},
	} {
		for _, acts := range [][]node.Act{nil, led()} {
			told, files, e := run.Play(x.o, x.files, 0, acts)
			_, _, f := node.Play(x.o, x.files, 0, acts)
			is(t, say(e, told == nil, files == nil), say(x.want, true, true))
			is(t, e, f)
		}
	}
}

// The disk is full: the node goes down, and the acts behind that are answered all the same.
func TestP13_1_Down(t *testing.T) {
	o := opts(1, 1)
	o.Segment = 64
	acts := led()
	for i := range 9 {
		acts = append(acts, called(puts(i+1, "a", "x")))
		acts = append(acts, picks(node.PCall, node.PWork, node.PWrite, node.PSync, node.PNotice)...)
	}
	acts = append(acts, stopped(), ticked(0), node.Act{Kind: node.ADeliver}, called(gets(50, "a")))
	acts = append(acts, picks(0, 1, 2, 3, 4, 5, 6, 7, 8, 9, 10)...)
	told, left, e := run.Play(o, crowd(api.MaxFiles-1), 0, acts)
	want, files, _ := node.Play(o, crowd(api.MaxFiles-1), 0, acts)
	is(t, say(e, told, left), say(api.OK, want, files))
	at := slices.IndexFunc(told, func(x node.Told) bool { return say(x.Events) == say([]node.Event{{Kind: node.EDown}}) })
	if at < 0 || at > len(told)-20 {
		t.Fatalf("it went down at %d of %d", at, len(told))
	}
	for i, x := range told[at+1:] {
		var none node.Told
		if acts[at+1+i].Kind == node.ACall {
			none.Reply.Code = api.RDown
		}
		is(t, say(x), say(none))
	}
}

// Each kind of pick, and each act, at numbers of all sizes.
func TestP13_1_AnyNumbers(t *testing.T) {
	var acts []node.Act
	for _, n := range append(far(), -1, 0, 1, 2, 3, 4, 5, 6, 7, 8, 9, 10, api.MaxIndex) {
		acts = append(acts, ticked(n), picked(n), called(gets(n, "a")), called(puts(n, "a", "x")), node.Act{Kind: n, N: n})
		acts = append(acts, picks(1, 2, 3, 4, 5, 6, 7, 8, 9)...)
	}
	for _, nodes := range []int{1, 3} {
		told, left, e := run.Play(opts(1, nodes), nil, 0, acts)
		want, files, f := node.Play(opts(1, nodes), nil, 0, acts)
		is(t, say(told, left, e), say(want, files, f))
	}
}
