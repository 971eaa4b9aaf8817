package core_test

import (
	"math"
	"testing"

	"synod/api"
	"synod/core"
)

func TestP10_2_DrawOnlyWhereElapsedIsZero(t *testing.T) {
	k := blank(t, 1, 3)
	k.c.Tick(5)
	k.status("follower t0 v0 of 0; 1/15; c0 a0 l0")
	// Later draws change nothing, till it begins anew.
	for _, draw := range far() {
		k.c.Tick(draw)
	}
	k.status("follower t0 v0 of 0; 10/15; c0 a0 l0")
	k.step(beat(2, 1, 1, 0, 0))
	k.status("follower t1 v0 of 2; 0/15; c0 a0 l0")
	k.c.Tick(7)
	k.status("follower t1 v0 of 2; 1/17; c0 a0 l0")
	for range 16 {
		k.c.Tick(0)
	}
	k.status("candidate t2 v1 of 0; 0/17; c0 a0 l0")
	k.c.Tick(2)
	k.status("candidate t2 v1 of 0; 1/12; c0 a0 l0")
}

func TestP10_2_FirstTickDrawsAnew(t *testing.T) {
	c, _ := core.New(opts(1, 3), api.State{}, api.Snap{}, nil, 60)
	is(t, c.Status().Timeout, 70)
	c.Tick(0)
	is(t, shownStatus(c.Status()), "follower t0 v0 of 0; 1/10; c0 a0 l0")
}

func TestP10_2_Stands(t *testing.T) {
	k := makeKit(t, opts(2, 5), api.State{Term: 6, Vote: 4, Commit: 4}, snapOf(3, 2, "s"), of(4, 3, 5)...)
	k.work("apply 4/3")
	k.step(beat(4, 2, 6, 0, 7))
	k.work("#1; after BeatAns 2>4 t6 x7")
	k.status("follower t6 v4 of 4; 0/10; c4 a3 l5")
	k.tick(9)
	k.status("follower t6 v4 of 4; 9/10; c4 a3 l5")
	k.work("")
	k.tick(1)
	k.status("candidate t7 v2 of 0; 0/10; c4 a3 l5")
	k.work("#2; state 7 2 4; after Vote 2>1 t7 i5 l5, Vote 2>3 t7 i5 l5, Vote 2>4 t7 i5 l5, Vote 2>5 t7 i5 l5")
	// It stands again, in the next term, with new votes.
	k.step(voteYes(1, 2, 7))
	k.tick(10)
	k.status("candidate t8 v2 of 0; 0/10; c4 a3 l5")
	k.step(voteYes(3, 2, 8))
	k.status("candidate t8 v2 of 0; 0/10; c4 a3 l5")
	k.step(voteYes(1, 2, 8))
	k.status("leader t8 v2 of 2; 0/10; c4 a3 l6")
}

// A snapshot is the log's last, where nothing stands behind it.
func TestP10_2_VoteOfASnapshot(t *testing.T) {
	k := makeKit(t, opts(2, 2), api.State{Term: 6}, snapOf(3, 2, "s"))
	k.tick(10)
	k.work("#1; state 7 2 3; after Vote 2>1 t7 i3 l2")
}

func TestP10_2_LastTerm(t *testing.T) {
	k := makeKit(t, opts(1, 3), api.State{Term: top - 1}, api.Snap{})
	k.tick(10)
	k.status("candidate t4611686018427387904 v1 of 0; 0/10; c0 a0 l0")
	k.done()
	// A candidate of the last term stays one, and begins to wait anew.
	k.tick(9)
	k.status("candidate t4611686018427387904 v1 of 0; 9/10; c0 a0 l0")
	k.tick(1)
	k.status("candidate t4611686018427387904 v1 of 0; 0/10; c0 a0 l0")
	k.work("")
	k.c.Tick(4)
	k.status("candidate t4611686018427387904 v1 of 0; 1/14; c0 a0 l0")
	// Its votes count still.
	k.step(voteYes(2, 1, top))
	k.status("leader t4611686018427387904 v1 of 1; 1/14; c0 a0 l1")
	k = makeKit(t, opts(1, 3), api.State{Term: top, Vote: 3}, api.Snap{})
	k.step(beat(2, 1, top, 0, 0))
	k.done()
	k.tick(10)
	k.status("follower t4611686018427387904 v3 of 2; 0/10; c0 a0 l0")
	k.work("")
	for _, nodes := range []int{1, 2} {
		k = makeKit(t, opts(1, nodes), api.State{Term: top}, api.Snap{})
		k.tick(30)
		k.status("follower t4611686018427387904 v0 of 0; 0/10; c0 a0 l0")
		k.work("")
	}
}

func TestP10_2_LeaderBeats(t *testing.T) {
	o := opts(1, 3)
	o.Beat = 3
	k := makeKit(t, o, api.State{}, api.Snap{})
	k.tick(10)
	k.step(voteYes(2, 1, 1))
	k.done()
	for range 3 {
		k.tick(2)
		k.work("")
		k.c.Tick(math.MaxInt)
		k.work("now Beat 1>2 t1, Beat 1>3 t1")
	}
	// A leader's ticks are none of its elapsed, and draw no timeout.
	k.status("leader t1 v1 of 1; 0/10; c0 a0 l1")
	k.step(appYes(3, 1, 1, 1))
	k.done()
	// Beats that a read sends begin the count anew.
	k.tick(2)
	is(t, k.c.Read(8), api.OK)
	k.work("now Beat 1>2 t1 x1, Beat 1>3 t1 c1 x1")
	k.tick(2)
	k.work("")
	k.tick(1)
	k.work("now Beat 1>2 t1 x1, Beat 1>3 t1 c1 x1")
}

func TestP10_2_LeaderAlone(t *testing.T) {
	o := opts(1, 1)
	o.Beat = 2
	k := makeKit(t, o, api.State{}, api.Snap{})
	k.tick(10)
	k.done()
	k.same(func() { k.tick(50) })
	k.work("")
}

func TestP10_7_Leads(t *testing.T) {
	k := makeKit(t, opts(2, 3), api.State{Term: 6, Commit: 4}, snapOf(3, 2, "s"), of(4, 3, 5)...)
	k.done()
	k.tick(14)
	k.step(voteYes(3, 2, 7))
	k.status("leader t7 v2 of 2; 4/10; c4 a4 l6")
	k.log("3 2 ; 4/3 5/5 6/7")
	k.work("#1; state 7 2 4; write 6/7; now App 2>1 t7 i5 l5 c4 [6/7], App 2>3 t7 i5 l5 c4 [6/7]; after Vote 2>1 t7 i5 l5, Vote 2>3 t7 i5 l5")
	// Each of the others was sent one message, and is sent no more up to an answer.
	k.propose("a", 7, 7)
	k.work("#2; write 7/7=a")
	// A vote that comes late is nothing to it.
	k.same(func() { k.step(voteYes(1, 2, 7), voteNo(1, 2, 7)) })
	k.work("")
}

// No ticks since its last beats: also where it led before.
func TestP10_7_NoTicks(t *testing.T) {
	o := opts(1, 3)
	o.Beat = 3
	k := makeKit(t, o, api.State{}, api.Snap{})
	k.tick(10)
	k.step(voteYes(2, 1, 1))
	k.tick(2)
	k.step(vote(2, 1, 2, 0, 0))
	k.tick(10)
	k.step(voteYes(2, 1, 3))
	k.done()
	k.tick(2)
	k.work("")
	k.tick(1)
	k.work("now Beat 1>2 t3, Beat 1>3 t3")
}

// Room is the window's: so many messages go ahead of an answer.
func TestP10_7_Window(t *testing.T) {
	o := opts(1, 2)
	o.Window = 3
	k := makeKit(t, o, api.State{}, api.Snap{})
	k.tick(10)
	k.step(voteYes(2, 1, 1))
	k.step(appYes(2, 1, 1, 1))
	k.done()
	for i := range 5 {
		k.propose("a", 2+i, 1)
	}
	k.work("#3; write 2/1=a 3/1=a 4/1=a 5/1=a 6/1=a; now App 1>2 t1 i1 l1 c1 [2/1=a], App 1>2 t1 i2 l1 c1 [3/1=a], App 1>2 t1 i3 l1 c1 [4/1=a]")
}

func TestP10_7_NoRoom(t *testing.T) {
	// Alone, and by others' votes: at the last index, and of a full log.
	full := many(api.MaxLog, 2, 1)
	for _, x := range []struct {
		snap    api.Snap
		entries []api.Entry
		last    string
	}{
		{snapOf(top, 5, ""), nil, "c4611686018427387904 a4611686018427387904 l4611686018427387904"},
		{snapOf(top-1, 5, ""), of(top, 5), "c4611686018427387903 a4611686018427387903 l4611686018427387904"},
		{api.Snap{}, full, "c0 a0 l10000"},
	} {
		k := makeKit(t, opts(1, 1), api.State{Term: 5}, x.snap, x.entries...)
		k.tick(10)
		k.status("follower t6 v1 of 0; 0/10; " + x.last)
		w, ok := k.c.Ready()
		is(t, say(ok, w.Number, w.HasState, w.State.Term, w.State.Vote, len(w.Entries)), "true 1 true 6 1 0")
		k.tick(10)
		k.status("follower t7 v1 of 0; 0/10; " + x.last)
		k = makeKit(t, opts(1, 3), api.State{Term: 5}, x.snap, x.entries...)
		k.tick(13)
		k.done()
		k.step(voteYes(2, 1, 6))
		k.status("follower t6 v1 of 0; 3/10; " + x.last)
		k.work("")
		k.step(voteYes(3, 1, 6))
		k.status("follower t6 v1 of 0; 3/10; " + x.last)
		_, _, e := k.c.Propose(nil)
		is(t, say(e, k.c.Read(1), k.c.Match(2)), say(api.ErrLead, api.ErrLead, 0))
	}
	// With room for one it leads.
	k := makeKit(t, opts(1, 1), api.State{Term: 5}, api.Snap{}, full[:api.MaxLog-1]...)
	k.tick(10)
	k.status("leader t6 v1 of 1; 0/10; c0 a0 l10000")
	k = makeKit(t, opts(1, 1), api.State{Term: 5}, snapOf(top-1, 5, ""))
	k.tick(10)
	k.status("leader t6 v1 of 1; 0/10; c4611686018427387903 a4611686018427387903 l4611686018427387904")
	k.done()
	is(t, k.c.Status().Commit, top)
	is(t, k.c.Read(3), api.OK)
	k.work("reads 3@4611686018427387904")
}
