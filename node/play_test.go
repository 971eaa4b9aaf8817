package node_test

import (
	"fmt"
	"math/rand/v2"
	"testing"

	"synod/api"
	"synod/disk"
	"synod/node"
)

func ticked(draw int) node.Act          { return node.Act{Kind: node.ATick, N: draw} }
func picked(kind int) node.Act          { return node.Act{Kind: node.APick, N: kind} }
func called(c node.Call) node.Act       { return node.Act{Kind: node.ACall, Call: c} }
func delivered(m api.Message) node.Act  { return node.Act{Kind: node.ADeliver, Data: framed(m)} }
func stopped() node.Act                 { return node.Act{Kind: node.AStop} }
func shownTold(l node.Told) string      { return say(l.Did, shownReply(l.Reply), "["+shown(l.Events)+"]") }
func (k kit) does(a node.Act, w string) { k.t.Helper(); is(k.t, shownTold(node.Do(k.n, a)), w) }

func TestP12_7_Do(t *testing.T) {
	o := opts(1, 1)
	o.Inbox, o.Ticks, o.Calls = 1, 1, 1
	k := made(t, o)
	k.does(node.Act{Kind: node.ADeliver}, "true nothing []")
	k.does(node.Act{Kind: node.ADeliver}, "false nothing []")
	k.does(ticked(7), "true nothing []")
	k.does(ticked(7), "false nothing []")
	k.does(called(puts(5, "a", "x")), "true nothing []")
	k.does(called(puts(6, "a", "x")), "false busy []")
	k.does(called(node.Call{ID: 6}), "false limit []")
	k.does(picked(node.PCall), "true nothing [reply 5 lead]")
	k.does(picked(node.PCall), "false nothing []")
	k.does(picked(node.PTick), "true nothing []")
	is(t, k.n.View().Core.Timeout, 17)
	k.does(picked(99), "false nothing []")
	k.does(stopped(), "true nothing []")
	is(t, k.n.View().Stopped, true)
	k.does(stopped(), "false nothing []")
	k.does(called(puts(6, "a", "x")), "false down []")
	k.does(ticked(0), "false nothing []")
	k.does(picked(node.PTick), "true nothing [end 1]")
	k = downed(t)
	k.does(stopped(), "false nothing []")
	is(t, k.n.View().Stopped, false)
}

// Only what a kind names counts; another kind does nothing.
func TestP12_7_DoNames(t *testing.T) {
	full := func(kind, n int) node.Act {
		return node.Act{Kind: kind, N: n, Data: framed(vote(2, 7, 0, 0)), Call: gets(5, "a")}
	}
	k := made(t, opts(1, 3))
	k.does(full(node.ADeliver, node.PCall), "true nothing []")
	k.view("0 0 0 0; 0 0 0; inbox 1")
	k.does(full(node.ATick, 3), "true nothing []")
	k.view("0 0 0 0; 0 0 0; inbox 1 ticks 1")
	k.does(full(node.ACall, node.PInbox), "true nothing []")
	k.view("0 0 0 0; 0 0 0; inbox 1 ticks 1 calls 1")
	k.does(full(node.APick, node.PCall), "true nothing [reply 5 lead]")
	k.does(full(node.APick, node.PInbox), "true nothing []")
	k.view("7 2 0 0; 0 0 0; ticks 1")
	for _, kind := range append(far(), 0, 6) {
		k.does(full(kind, node.PTick), "false nothing []")
	}
	k.view("7 2 0 0; 0 0 0; ticks 1")
	k.does(full(node.AStop, node.PTick), "true nothing []")
	k.view("7 2 0 0; 0 0 0; stopped ticks 1")
}

func TestP12_7_PlayNothing(t *testing.T) {
	l, files, e := node.Play(opts(1, 1), nil, 0, nil)
	is(t, say(len(l), e), "0 0")
	is(t, say(files), say(made(t, opts(1, 1)).d.Files()))
}

// The errors, and nothing beside them: those of the files, then those of Open.
func TestP12_7_PlayErrors(t *testing.T) {
	wrong := opts(1, 1)
	wrong.Out = 0
	acts := []node.Act{ticked(0)}
	for _, x := range []struct {
		o     node.Opts
		files []api.File
		want  api.Errno
	}{
		{opts(1, 1), []api.File{{Name: "A"}}, api.ErrName},
		{opts(1, 1), []api.File{{Name: "a"}, {Name: "a"}}, api.ErrThere},
		{opts(1, 1), []api.File{{Name: "a", Synced: 1}}, api.ErrRange},
		{wrong, []api.File{{Name: "A"}}, api.ErrName},
		{wrong, nil, api.ErrOpts},
		{wrong, []api.File{{Name: "wal-00000002"}}, api.ErrOpts},
		{opts(1, 1), []api.File{{Name: "wal-00000002"}}, api.ErrCorrupt},
		{opts(1, 1), written(t, termed(1, 2, 0)).Files(), api.ErrForm},
	} {
		l, files, e := node.Play(x.o, x.files, 0, acts)
		is(t, say(e, len(l), len(files)), say(x.want, 0, 0))
	}
}

// someActs are acts of all kinds, for a node of three.
func someActs(r *rand.Rand, n int) []node.Act {
	var l []node.Act
	for i := range n {
		switch r.IntN(12) {
		case 0:
			l = append(l, ticked(r.IntN(30)-5))
		case 1:
			l = append(l, called(puts(i+1, fmt.Sprint("k", r.IntN(3)), "v")))
		case 2:
			l = append(l, called(gets(-i, fmt.Sprint("k", r.IntN(3)))))
		case 3:
			l = append(l, delivered([]api.Message{
				voteYes(2, 1+r.IntN(3)), appYes(2, 1+r.IntN(3), r.IntN(9)), beatAns(3, 1+r.IntN(3), r.IntN(5)),
				app(3, 1+r.IntN(4), 0, 0, r.IntN(3), of(1, 1, 1)...),
			}[r.IntN(4)]))
		default:
			l = append(l, picked(r.IntN(11)))
		}
	}
	return l
}

// Play is Open and Do, act by act.
func TestP12_7_Play(t *testing.T) {
	for seed := range uint64(60) {
		r := rand.New(rand.NewPCG(seed, 12))
		acts := someActs(r, 200)
		if seed%3 == 0 {
			acts[150] = stopped()
		}
		o, draw := opts(1, 1+2*r.IntN(2)), r.IntN(9)
		o.Every, o.Core.Election = 3, 2
		files := written(t, termed(1, 0, 0, of(1, 1)...)).Files()
		l, left, e := node.Play(o, files, draw, acts)
		is(t, say(e, len(l)), say(0, len(acts)))
		d, _ := disk.Load(files)
		n, _ := node.Open(o, d, draw)
		for i, a := range acts {
			if have, want := shownTold(l[i]), shownTold(node.Do(n, a)); have != want {
				t.Fatalf("act %d: %s; by hand %s", i, have, want)
			}
		}
		is(t, say(left), say(d.Files()))
	}
}
