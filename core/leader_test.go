package core_test

import (
	"testing"

	"synod/api"
	"synod/core"
)

// nowTo is what of the next work's now messages goes to a node; the work is synced.
func (k kit) nowTo(id int) string {
	k.t.Helper()
	w, _ := k.c.Ready()
	if w.Number > 0 {
		k.synced(w.Number)
	}
	var l []api.Message
	for _, m := range w.Now {
		if m.To == id {
			l = append(l, m)
		}
	}
	return shownMessages(l)
}

// batched is the chapter's options with a batch and a window.
func batched(nodes, batch, window int) core.Opts {
	o := opts(1, nodes)
	o.Batch, o.Window = batch, window
	return o
}

// ledOf is node 1 of two as the leader of term 9 of such a log, all that it said taken; node 2 was sent what is behind it.
func ledOf(t *testing.T, o core.Opts, snap api.Snap, entries ...api.Entry) kit {
	t.Helper()
	k := makeKit(t, o, api.State{Term: 8}, snap, entries...)
	k.tick(10)
	for id := 2; id <= o.Nodes/2+1; id++ {
		k.step(voteYes(id, 1, 9))
	}
	k.done()
	is(t, k.c.Status().Role, api.Leader)
	return k
}

func TestP10_3_AppAnsOfOthersIsNothing(t *testing.T) {
	k := some(t)
	k.same(func() { k.step(appYes(1, 2, 6, 6), appNo(1, 2, 6, 6, 5), beatAns(1, 2, 6, 4)) })
	k.work("")
	k.tick(8)
	k.done()
	k.same(func() { k.step(appYes(1, 2, 7, 6), appNo(1, 2, 7, 6, 5), beatAns(1, 2, 7, 4)) })
	k.work("")
}

// An index above the last one is nothing, with Reject and without.
func TestP10_3_AppAnsAboveTheLast(t *testing.T) {
	k := serving(t, opts(1, 3))
	k.propose("a", 2, 1)
	k.done()
	for _, n := range []int{3, 4, top} {
		k.same(func() { k.step(appYes(2, 1, 1, n), appNo(2, 1, 1, n, 0)) })
	}
	k.work("")
	k.step(appYes(2, 1, 1, 2))
	is(t, k.c.Match(2), 2)
}

func TestP10_3_Rejected(t *testing.T) {
	k := ledOf(t, opts(1, 2), api.Snap{}, of(1, 1, 1, 2, 2, 3)...)
	// Another index than the one that was asked is nothing.
	k.same(func() { k.step(appNo(2, 1, 9, 4, 2), appNo(2, 1, 9, 0, 0)) })
	k.work("")
	k.step(appNo(2, 1, 9, 5, 3))
	k.work("now App 1>2 t9 i3 l2 [4/2 5/3 6/9]")
	// Once more the same: that index is not asked any more.
	k.step(appNo(2, 1, 9, 5, 3))
	k.work("")
	k.step(appNo(2, 1, 9, 3, 0))
	k.work("now App 1>2 t9 [1/1 2/1 3/2 4/2 5/3 6/9]")
	// It may be sent anew where nothing is below.
	k.step(appNo(2, 1, 9, 0, 0))
	k.work("now App 1>2 t9 [1/1 2/1 3/2 4/2 5/3 6/9]")
	k.step(appYes(2, 1, 9, 6))
	k.work("#2; state 9 1 6; now App 1>2 t9 i6 l9 c6; apply 1/1 2/1 3/2 4/2 5/3 6/9")
	// In Replicate a rejection above Match goes back behind Match.
	k.propose("a", 7, 9)
	k.work("#3; write 7/9=a; now App 1>2 t9 i6 l9 c6 [7/9=a]")
	k.step(appNo(2, 1, 9, 6, 0))
	k.work("")
	k.step(appNo(2, 1, 9, 7, 0))
	k.work("now App 1>2 t9 i6 l9 c6 [7/9=a]")
	is(t, k.c.Match(2), 6)
}

// Where a rejection is answered one message goes, even if more is left: it is asked again where the logs meet.
func TestP10_3_RejectedIsSentOnce(t *testing.T) {
	k := ledOf(t, batched(2, 2, 4), api.Snap{}, of(1, 1, 1, 2, 2, 3)...)
	k.step(appNo(2, 1, 9, 5, 1))
	k.work("now App 1>2 t9 i1 l1 [2/1 3/2]")
	// Acknowledged: the rest goes, as much as the window takes.
	k.step(appYes(2, 1, 9, 3))
	k.work("now App 1>2 t9 i3 l2 [4/2 5/3], App 1>2 t9 i5 l3 [6/9]")
}

func TestP10_3_Acked(t *testing.T) {
	k := ledOf(t, batched(3, 2, 2), api.Snap{}, many(8, 1, 1)...)
	k.step(appNo(2, 1, 9, 8, 0))
	k.work("now App 1>2 t9 [1/1 2/1]")
	k.step(appYes(2, 1, 9, 2))
	is(t, say(k.c.Match(2), k.c.Status().Commit), "2 0")
	k.work("now App 1>2 t9 i2 l1 [3/1 4/1], App 1>2 t9 i4 l1 [5/1 6/1]")
	// Each answer lets as much go as it frees.
	k.step(appYes(2, 1, 9, 4))
	k.work("now App 1>2 t9 i6 l1 [7/1 8/1]")
	// An old answer frees nothing.
	k.step(appYes(2, 1, 9, 4), appYes(2, 1, 9, 1))
	k.work("")
	is(t, k.c.Match(2), 4)
	// The commitment moves: each of the others is sent entries, one message each.
	k.step(appYes(2, 1, 9, 9))
	k.work("#2; state 9 1 9; now App 1>2 t9 i9 l9 c9; apply 1/1 2/1")
	k.done()
	k.propose("a", 10, 9)
	k.propose("b", 11, 9)
	k.propose("c", 12, 9)
	is(t, k.nowTo(2), "App 1>2 t9 i9 l9 c9 [10/9=a], App 1>2 t9 i10 l9 c9 [11/9=b]")
	k.step(beatAns(3, 1, 9, 0))
	is(t, k.nowTo(3), "App 1>3 t9 i8 l1 c9 [9/9 10/9=a]")
	k.step(appYes(3, 1, 9, 10))
	w, _ := k.c.Ready()
	is(t, shownMessages(w.Now), "App 1>3 t9 i10 l9 c10 [11/9=b 12/9=c]")
}

// Acknowledged, and the commitment moves: each of the others is sent entries once, the one that has answered too.
func TestP10_3_AckedCommits(t *testing.T) {
	k := serving(t, batched(3, 1, 8))
	for i, data := range []string{"a", "b", "c", "d"} {
		k.propose(data, 2+i, 1)
	}
	k.done()
	k.step(appNo(2, 1, 1, 2, 0))
	k.work("now App 1>2 t1 i1 l1 c1 [2/1=a]")
	k.step(appNo(3, 1, 1, 5, 0))
	k.work("now App 1>3 t1 i1 l1 c1 [2/1=a]")
	k.step(appYes(2, 1, 1, 2))
	k.work("#4; state 1 1 2; now App 1>2 t1 i2 l1 c2 [3/1=b]; apply 2/1=a")
	k.step(appYes(3, 1, 1, 2))
	k.work("now App 1>3 t1 i2 l1 c2 [3/1=b], App 1>3 t1 i3 l1 c2 [4/1=c], App 1>3 t1 i4 l1 c2 [5/1=d]")
}

func TestP10_3_BeatAns(t *testing.T) {
	// One that is paused is sent entries again.
	k := ledOf(t, batched(3, 2, 2), api.Snap{}, many(3, 1, 1)...)
	k.step(beatAns(2, 1, 9, 0))
	k.work("now App 1>2 t9 i3 l1 [4/9]")
	// One that has all is not.
	k.step(appYes(2, 1, 9, 4))
	k.done()
	k.step(beatAns(2, 1, 9, 0))
	k.work("")
	// One whose window is full is sent one message more.
	for i := range 4 {
		k.propose("a", 5+i, 9)
	}
	is(t, k.nowTo(2), "App 1>2 t9 i4 l9 c4 [5/9=a], App 1>2 t9 i5 l9 c4 [6/9=a]")
	k.step(beatAns(2, 1, 9, 0))
	k.work("now App 1>2 t9 i6 l9 c4 [7/9=a 8/9=a]")
	k.step(beatAns(2, 1, 9, 0))
	k.work("now App 1>2 t9 i8 l9 c4")
	// Below the last one, in Replicate, with nothing left: one without entries goes.
	k.step(appYes(2, 1, 9, 7))
	k.done()
	k.step(beatAns(2, 1, 9, 0))
	is(t, k.nowTo(2), "App 1>2 t9 i8 l9 c7")
}

// One that is sent a snapshot is asked anew behind a beat's answer.
func TestP10_3_BeatAnsBehindASnapshot(t *testing.T) {
	k := ledOf(t, opts(1, 2), snapOf(3, 2, "s"), of(4, 3)...)
	k.step(appNo(2, 1, 9, 4, 0))
	k.work("now Snap 1>2 t9 {3/2=s}")
	k.propose("a", 6, 9)
	k.tick(1)
	k.work("#2; write 6/9=a; now Beat 1>2 t9")
	k.step(beatAns(2, 1, 9, 0))
	k.work("now Snap 1>2 t9 {3/2=s}")
	// An acknowledgement of less than the snapshot leaves it there.
	k.step(appYes(2, 1, 9, 2))
	k.work("")
	k.step(appYes(2, 1, 9, 3))
	k.work("now App 1>2 t9 i3 l2 c3 [4/3 5/9 6/9=a]")
}

func TestP10_3_BeatAnsAnswersReads(t *testing.T) {
	k := serving(t, opts(1, 5))
	for id := 11; id <= 14; id++ {
		is(t, k.c.Read(id), api.OK)
	}
	w, _ := k.c.Ready()
	is(t, len(w.Now), 16)
	is(t, shownMessages(w.Now[12:]), "Beat 1>2 t1 c1 x4, Beat 1>3 t1 c1 x4, Beat 1>4 t1 c1 x4, Beat 1>5 t1 c1 x4")
	// Ctx 0 answers none; one node counts once.
	k.step(beatAns(2, 1, 1, 0), beatAns(3, 1, 1, 0), beatAns(4, 1, 1, 0))
	k.work("")
	k.step(beatAns(2, 1, 1, 2), beatAns(2, 1, 1, 2), beatAns(2, 1, 1, 1))
	k.work("")
	// A quorum of five is two others; the first ones are ready, up to what both have answered.
	k.step(beatAns(4, 1, 1, 1))
	k.work("reads 11@1")
	k.step(beatAns(4, 1, 1, 3))
	k.work("reads 12@1")
	k.step(beatAns(5, 1, 1, top))
	k.work("reads 13@1")
	k.step(beatAns(4, 1, 1, 3))
	k.work("")
	k.step(beatAns(3, 1, 1, 4))
	k.work("reads 14@1")
	k.step(beatAns(2, 1, 1, 4))
	k.work("")
}

// Several at once, in their order, each with its own index.
func TestP10_3_ReadsInOrder(t *testing.T) {
	k := serving(t, opts(1, 3))
	is(t, k.c.Read(9), api.OK)
	k.propose("a", 2, 1)
	k.done()
	k.step(appYes(2, 1, 1, 2))
	is(t, say(k.c.Read(3), k.c.Read(9)), "0 0")
	k.done()
	k.step(beatAns(3, 1, 1, 3))
	w, _ := k.c.Ready()
	is(t, w.Reads, "[{9 1} {3 2} {9 2}]")
}

func TestP10_8_Entries(t *testing.T) {
	k := ledOf(t, batched(2, 3, 4), api.Snap{}, command(1, 1, "a"), empty(2, 2), command(2, 3, "c"), empty(8, 4))
	k.step(appNo(2, 1, 9, 4, 0))
	k.work("now App 1>2 t9 [1/1=a 2/2 3/2=c]")
	k.step(appNo(2, 1, 9, 0, 0))
	k.step(appYes(2, 1, 9, 1))
	// The batch is the most that goes in a message.
	k.work("now App 1>2 t9 [1/1=a 2/2 3/2=c], App 1>2 t9 i1 l1 [2/2 3/2=c 4/8], App 1>2 t9 i4 l8 [5/9]")
	for _, batch := range []int{1, api.MaxEntries} {
		k = ledOf(t, batched(2, batch, 4), api.Snap{}, many(99, 1, 1)...)
		k.step(appNo(2, 1, 9, 99, 0))
		w, _ := k.c.Ready()
		is(t, say(len(w.Now), len(w.Now[0].Entries)), say(1, batch))
	}
}

// Probe: one message up to an answer; what was sent is not passed over.
func TestP10_8_Probe(t *testing.T) {
	k := ledOf(t, opts(1, 3), api.Snap{}, many(3, 1, 1)...)
	k.propose("a", 5, 9)
	k.work("#2; write 5/9=a")
	k.step(beatAns(2, 1, 9, 0))
	k.work("now App 1>2 t9 i3 l1 [4/9 5/9=a]")
	k.propose("b", 6, 9)
	k.work("#3; write 6/9=b")
	k.step(appYes(2, 1, 9, 3))
	k.work("now App 1>2 t9 i3 l1 [4/9 5/9=a 6/9=b]")
	k.propose("c", 7, 9)
	k.work("#4; write 7/9=c; now App 1>2 t9 i6 l9 [7/9=c]")
}

func TestP10_8_Snapshot(t *testing.T) {
	k := ledOf(t, opts(1, 3), snapOf(3, 2, "old"), of(4, 3, 5)...)
	// Next less 1 is the base: it is there.
	k.step(appNo(2, 1, 9, 5, 3))
	k.work("now App 1>2 t9 i3 l2 c3 [4/3 5/5 6/9]")
	k.step(appNo(2, 1, 9, 3, 2))
	k.work("now Snap 1>2 t9 {3/2=old}")
	// In Snapshot nothing goes.
	k.propose("a", 7, 9)
	k.step(appNo(2, 1, 9, 2, 0))
	k.done()
	k.step(appYes(2, 1, 9, 3))
	is(t, k.nowTo(2), "App 1>2 t9 i3 l2 c3 [4/3 5/5 6/9 7/9=a]")
	// The newest one goes, also where its index is above the base.
	k.step(appYes(2, 1, 9, 7))
	k.done()
	is(t, k.c.Status().Applied, 7)
	is(t, k.c.Compact(snapOf(7, 9, "new"), 1), api.OK)
	k.log("6 9 ; 7/9=a")
	k.step(appNo(3, 1, 9, 5, 0))
	k.work("now Snap 1>3 t9 {7/9=new}")
	k.step(appYes(3, 1, 9, 6))
	k.work("")
	k.step(appYes(3, 1, 9, 7))
	k.work("")
	k.propose("b", 8, 9)
	is(t, k.nowTo(3), "App 1>3 t9 i7 l9 c7 [8/9=b]")
}

func TestP10_9_Beats(t *testing.T) {
	k := ledOf(t, opts(1, 4), api.Snap{}, many(3, 1, 1)...)
	k.step(appYes(2, 1, 9, 2), appYes(3, 1, 9, 4), appYes(4, 1, 9, 4))
	k.done()
	is(t, k.c.Status().Commit, 4)
	k.propose("a", 5, 9)
	k.done()
	k.step(appYes(3, 1, 9, 5))
	k.done()
	is(t, say(k.c.Match(2), k.c.Match(3), k.c.Match(4), k.c.Status().Commit), "2 5 4 4")
	// No one is told of more than it is known to have, nor of what isn't committed.
	k.tick(1)
	k.work("now Beat 1>2 t9 c2, Beat 1>3 t9 c4, Beat 1>4 t9 c4")
	is(t, say(k.c.Read(1), k.c.Read(2)), "0 0")
	k.work("now Beat 1>2 t9 c2 x1, Beat 1>3 t9 c4 x1, Beat 1>4 t9 c4 x1, Beat 1>2 t9 c2 x2, Beat 1>3 t9 c4 x2, Beat 1>4 t9 c4 x2")
	k.tick(1)
	k.work("now Beat 1>2 t9 c2 x2, Beat 1>3 t9 c4 x2, Beat 1>4 t9 c4 x2")
	// Of the last read that waits.
	k.step(beatAns(3, 1, 9, 1), beatAns(4, 1, 9, 1))
	k.tick(1)
	k.work("now App 1>4 t9 i5 l9 c4, Beat 1>2 t9 c2 x2, Beat 1>3 t9 c4 x2, Beat 1>4 t9 c4 x2; reads 1@4")
	k.step(beatAns(3, 1, 9, 2), beatAns(4, 1, 9, 2))
	k.tick(1)
	k.work("now App 1>4 t9 i5 l9 c4, Beat 1>2 t9 c2, Beat 1>3 t9 c4, Beat 1>4 t9 c4; reads 2@4")
	is(t, k.c.Read(3), api.OK)
	k.work("now Beat 1>2 t9 c2 x3, Beat 1>3 t9 c4 x3, Beat 1>4 t9 c4 x3")
}

func TestP10_10_Commitment(t *testing.T) {
	// By others, as soon as a quorum has it: the leader itself counts only where it is durable.
	k := blank(t, 1, 5)
	k.tick(10)
	k.step(voteYes(2, 1, 1), voteYes(3, 1, 1))
	k.step(appYes(2, 1, 1, 1), appYes(3, 1, 1, 1))
	is(t, k.c.Status().Commit, 0)
	k.step(appYes(4, 1, 1, 1))
	is(t, k.c.Status().Commit, 1)
	// What isn't durable here is not applied.
	w, _ := k.c.Ready()
	is(t, say(w.State, shown(w.Apply)), "{1 1 1} ")
	k.synced(1)
	k.work("apply 1/1")
	k.propose("a", 2, 1)
	k.propose("b", 3, 1)
	k.propose("c", 4, 1)
	k.done()
	k.step(appYes(2, 1, 1, 4), appYes(3, 1, 1, 2))
	is(t, k.c.Status().Commit, 2)
	k.step(appYes(3, 1, 1, 3))
	is(t, k.c.Status().Commit, 3)
	k.step(appYes(5, 1, 1, 4))
	is(t, k.c.Status().Commit, 4)
}

// Synced moves it too, and each of the others is sent entries then.
func TestP10_10_BySynced(t *testing.T) {
	k := leading(t, opts(1, 3))
	k.step(appYes(2, 1, 1, 1))
	k.done()
	k.propose("a", 2, 1)
	k.work("#3; write 2/1=a; now App 1>2 t1 i1 l1 c1 [2/1=a]")
	k.step(appYes(2, 1, 1, 2))
	k.work("")
	k.synced(3)
	k.work("#4; state 1 1 2; now App 1>2 t1 i2 l1 c2; apply 2/1=a")
}

// Entries of an earlier term are committed by one of the leader's own, and not ahead of it.
func TestP10_10_OwnTermAlone(t *testing.T) {
	k := ledOf(t, batched(3, 2, 4), api.Snap{}, many(5, 2, 1)...)
	k.step(appNo(2, 1, 9, 5, 0), appYes(2, 1, 9, 2))
	is(t, k.c.Status().Commit, 0)
	k.step(appYes(2, 1, 9, 5), appYes(3, 1, 9, 5))
	is(t, say(k.c.Match(2), k.c.Match(3), k.c.Status().Commit), "5 5 0")
	is(t, k.c.Read(1), api.ErrEarly)
	k.step(appYes(3, 1, 9, 6))
	is(t, k.c.Status().Commit, 6)
	is(t, k.c.Read(1), api.OK)
}
