package node_test

import (
	"testing"

	"synod/api"
	"synod/node"
)

// follower is node 1 of three that follows node 2 in term 4, with entries that are committed, and an apply of them.
func follower(t *testing.T, o node.Opts, entries ...api.Entry) kit {
	t.Helper()
	k := made(t, o)
	k.steps(app(2, 4, 0, 0, len(entries), entries...))
	k.sweep(node.PWork, node.PWrite, node.PSync, node.PNotice, node.PSend)
	return k
}

// Entries are applied one by one; only a command's text changes the store.
func TestP12_3_Apply(t *testing.T) {
	text := func(index int, data string) api.Entry {
		return api.Entry{Term: 1, Index: index, Kind: api.ECommand, Data: []byte(data)}
	}
	good := commands(1, 2, put(1, 1, "a", "x"))
	k := follower(t, opts(1, 3), empty(1, 1), good, text(3, ""), text(4, "no command"),
		text(5, string(good.Data)+"x"), commands(1, 6, put(1, 2, "b", "y")), commands(1, 7, put(1, 1, "a", "late")))
	is(t, k.n.View().Applies, 1)
	k.picks("apply 1, apply 2, apply 3, apply 4, apply 5, apply 6, apply 7", node.PApply)
	k.view("4 0 0 2; 7 0 7; stored 7 synced 1 notices 1")
	is(t, say(k.n.Get("a"), k.n.Get("b"), k.n.Sessions()), "{1 x} {1 y} [{1 2 {1 }}]")
	k.idle(node.PApply)
	k.picks("", node.PNotice)
	is(t, k.n.View().Core.Applied, 7)
}

// What is told of a work's entries is one step's, Batch at most.
func TestP12_3_ApplyBatches(t *testing.T) {
	o := opts(1, 3)
	o.Core.Batch = 2
	k := made(t, o)
	k.steps(app(2, 4, 0, 0, 5, of(1, 1, 1, 1, 1, 1)...))
	k.sweep(node.PWork, node.PWrite, node.PSync, node.PNotice)
	is(t, k.n.View().Applies, 3)
	k.picks("apply 1, apply 2", node.PApply)
	k.picks("apply 3, apply 4", node.PApply)
	k.view("4 0 0 2; 5 0 5; stored 4 synced 1 notices 2 applies 1 out 1")
	k.picks("", node.PNotice)
	is(t, k.n.View().Core.Applied, 2)
	k.picks("apply 5", node.PApply)
	k.picks("", node.PNotice, node.PNotice)
	is(t, k.n.View().Core.Applied, 5)
}

// A pending call gets what the store says, whatever that is.
func TestP12_3_ApplyReplies(t *testing.T) {
	k := led(t, opts(1, 1))
	for i, c := range []api.Command{
		put(1, 5, "a", "x"),
		{Op: api.OpSwap, Client: 2, Seq: 1, Key: "a", Value: "z", Old: "y"},
		{Op: api.OpDelete, Client: 2, Seq: 2, Key: "b"},
		put(1, 4, "a", "late"),
		put(1, 5, "a", "again"),
	} {
		k.calls(node.Call{ID: -i, Command: c})
		k.picks("", node.PCall, node.PWork, node.PWrite)
		is(t, k.n.View().Pending, 1)
		k.sweep(node.PSync, node.PNotice, node.PWork)
		want := []string{"done", "other x", "none", "old", "done"}[i]
		k.picks(say("apply", 2+i)+say(", reply", -i, want), node.PApply)
		is(t, k.n.View().Pending, 0)
		k.sweep(node.PWrite, node.PSync, node.PNotice)
	}
	is(t, shownReply(k.n.Get("a")), "done x")
}

// pendingOnes is a node that led in term 1 with calls at the indices 2, 3, 4, and follows in term 2.
func pendingOnes(t *testing.T) kit {
	t.Helper()
	k := serving(t, opts(1, 3))
	k.calls(puts(9, "a", "x"), puts(7, "b", "y"), puts(8, "c", "z"))
	k.picks("", node.PCall, node.PCall, node.PCall)
	k.rest()
	is(t, k.n.View().Pending, 3)
	return k
}

// Another entry stands in a call's place: of another term, or no command.
func TestP12_3_ApplyLost(t *testing.T) {
	k := pendingOnes(t)
	same := commands(2, 2, puts(9, "a", "x").Command)
	k.steps(app(2, 2, 1, 1, 4, same, empty(2, 3), api.Entry{Term: 2, Index: 4, Kind: api.ECommand, Data: []byte("none")}))
	is(t, k.sweep(node.PWork, node.PWrite, node.PSync, node.PNotice, node.PApply), "sync 5, apply 2, reply 9 lost, apply 3, reply 7 lost, apply 4, reply 8 lost")
	is(t, say(shownReply(k.n.Get("a")), k.n.View().Pending), "done x 0")
	// Its own entry: though the leader is another one by now.
	k = pendingOnes(t)
	k.steps(app(2, 2, 4, 1, 4))
	is(t, k.sweep(node.PWork, node.PWrite, node.PSync, node.PNotice, node.PApply), "sync 5, apply 2, reply 9 done, apply 3, reply 7 old, apply 4, reply 8 old")
}

// A snapshot takes the store's place; what is pending up to it is lost, by rising indices; the rest stays pending.
func TestP12_3_ApplySnap(t *testing.T) {
	for _, x := range []struct {
		index   int
		told    string
		pending int
	}{
		{5, "reply 9 lost, reply 7 lost, reply 8 lost", 0},
		{4, "reply 9 lost, reply 7 lost, reply 8 lost", 0},
		{3, "reply 9 lost, reply 7 lost", 1},
		{2, "reply 9 lost", 2},
	} {
		k := pendingOnes(t)
		k.steps(snapMsg(2, 3, storeWith(x.index, 2, "d", "w")))
		k.picks("", node.PWork)
		k.picks(x.told, node.PApply)
		is(t, say(k.n.View().Pending, k.n.View().Stored, k.n.View().Notices), say(x.pending, x.index, 1))
		is(t, say(k.n.Get("a"), k.n.Get("d"), len(k.n.Sessions())), "{2 } {1 w} 1")
		is(t, k.n.View().Core.Applied, x.index)
	}
}

// Entries behind it go on from it.
func TestP12_3_ApplyBehindSnap(t *testing.T) {
	k := made(t, opts(1, 3))
	k.steps(snapMsg(2, 4, storeWith(9, 3, "a", "x")))
	k.picks("", node.PWork)
	k.steps(app(2, 4, 9, 3, 10, commands(3, 10, put(9, 1, "a", "again"))))
	is(t, k.sweep(node.PWork, node.PWrite, node.PSync, node.PNotice), "sync 2")
	is(t, k.n.View().Applies, 2)
	k.picks("", node.PApply)
	k.picks("apply 10", node.PApply)
	// The session came with the snapshot.
	is(t, shownReply(k.n.Get("a")), "done x")
	k.view("4 0 0 2; 10 9 10; stored 10 synced 2 snap 9 notices 2 out 2")
}

// A snapshot that no store has: an empty store.
func TestP12_3_ApplyNoStore(t *testing.T) {
	for _, data := range []string{"", "x", "\x01\x00\x00\x00"} {
		k := follower(t, opts(1, 3), commands(1, 1, put(1, 1, "a", "x")))
		k.rest()
		is(t, shownReply(k.n.Get("a")), "done x")
		k.steps(snapMsg(2, 4, api.Snap{Index: 9, Term: 3, Data: []byte(data)}))
		is(t, k.rest(), "sync 2, send 1>2 AppAns t4 i9")
		is(t, say(k.n.Get("a"), k.n.Sessions(), k.n.View().Stored), "{2 } [] 9")
	}
}

// A read that is ready waits until the store has its index.
func TestP12_3_ApplyReads(t *testing.T) {
	k := serving(t, opts(1, 3))
	k.calls(puts(7, "a", "x"))
	k.picks("", node.PCall)
	k.sweep(node.PWork, node.PWrite, node.PSync, node.PNotice)
	k.steps(appYes(2, 1, 2))
	is(t, k.n.View().Core.Commit, 2)
	k.calls(gets(8, "a"), gets(9, "b"))
	k.picks("", node.PCall, node.PCall)
	k.steps(beatAns(3, 1, 2))
	// The work has the entry and the reads: the entry is applied first.
	k.picks("", node.PWork)
	k.view("1 1 2 1; 2 1 2; stored 1 synced 4 jobs 1 applies 1 out 7 waiting 2 pending 1")
	k.picks("apply 2, reply 7 done, reply 8 done x, reply 9 none", node.PApply)
	is(t, k.n.View().Waiting, 0)
	// Without entries there is no notice.
	is(t, k.sweep(node.PNotice, node.PWrite, node.PSync), "sync 5")
	k.sweep(node.PNotice)
	k.calls(gets(10, "a"))
	k.picks("", node.PCall)
	k.steps(beatAns(3, 1, 3))
	k.picks("reply 10 done x", node.PWork, node.PApply)
	is(t, k.n.View().Notices, 0)
}

// Reads wait for their own index each, and are answered in the order in which they became ready.
func TestP12_3_ApplyReadsInOrder(t *testing.T) {
	o := opts(1, 3)
	o.Core.Batch, o.Core.Reads = 1, 9
	k := serving(t, o)
	k.calls(puts(7, "a", "x"), puts(8, "a", "y"))
	k.picks("", node.PCall, node.PCall)
	k.sweep(node.PWork, node.PWrite, node.PSync, node.PNotice)
	k.steps(appYes(2, 1, 2))
	k.calls(gets(11, "a"))
	k.picks("", node.PCall)
	k.steps(appYes(2, 1, 3))
	k.calls(gets(14, "a"), gets(13, "a"))
	k.picks("", node.PCall, node.PCall)
	is(t, k.n.View().Core.Commit, 3)
	k.steps(beatAns(3, 1, 3))
	// One entry a work: the reads become ready with the first of them.
	k.picks("", node.PWork)
	k.picks("apply 2, reply 7 done, reply 11 done x", node.PApply)
	is(t, k.n.View().Waiting, 2)
	k.picks("", node.PWork)
	k.picks("apply 3, reply 8 done, reply 14 done y, reply 13 done y", node.PApply)
	is(t, k.n.View().Waiting, 0)
}

// Snapshots are taken where the store is Every above the last one, and none is on its way.
func TestP12_3_ApplyTakes(t *testing.T) {
	for every := 1; every < 5; every++ {
		o := opts(1, 1)
		o.Every = every
		k := made(t, o)
		k.ticks(10)
		last := 0
		k.rest()
		if every == 1 {
			last = 1
		}
		is(t, k.n.View().Snap, last)
		for i := 2; i < 12; i++ {
			k.calls(puts(i, "a", "x"))
			k.rest()
			if i-last >= every {
				last = i
			}
			is(t, say(every, k.n.View().Stored, k.n.View().Snap), say(every, i, last))
		}
	}
	o := opts(1, 1)
	o.Every = 0
	k := led(t, o)
	for i := range 40 {
		k.calls(puts(2+i, "a", "x"))
		k.rest()
	}
	is(t, say(k.n.View().Snap, k.d.List()), "0 [wal-00000001]")
}

// While one is on its way no other one is taken; then the next apply takes one, were it of reads alone.
func TestP12_3_ApplyTakesOne(t *testing.T) {
	o := opts(1, 1)
	o.Every, o.Core.Batch = 2, 1
	k := led(t, o)
	k.calls(puts(7, "a", "x"))
	k.sweep(node.PCall, node.PWork, node.PWrite, node.PSync, node.PApply, node.PNotice)
	k.view("1 1 2 1; 2 2 2; stored 2 synced 4 snap 2")
	k = led(t, o)
	k.calls(puts(7, "a", "x"), puts(8, "a", "y"), puts(9, "a", "z"))
	k.picks("", node.PCall, node.PCall, node.PCall)
	k.picks("sync 3", node.PWork, node.PWrite, node.PSync, node.PNotice, node.PWork, node.PWork, node.PWork)
	is(t, k.n.View().Applies, 3)
	k.picks("apply 2, reply 7 done", node.PApply)
	is(t, k.n.View().Notices, 2)
	k.picks("apply 3, reply 8 done, apply 4, reply 9 done", node.PApply, node.PApply)
	is(t, k.n.View().Notices, 4)
	// Taken, a job, held: it is on its way all that time.
	k.picks("sync 4", node.PWrite, node.PSync)
	k.sweep(node.PNotice)
	k.calls(gets(20, "a"))
	k.picks("reply 20 done z", node.PCall, node.PWork, node.PApply)
	k.idle(node.PNotice)
	k.picks("", node.PWrite)
	k.calls(gets(21, "a"))
	k.picks("reply 21 done z", node.PCall, node.PWork, node.PApply)
	k.idle(node.PNotice)
	k.picks("snap 2", node.PSync)
	k.picks("", node.PNotice)
	k.idle(node.PNotice)
	k.calls(gets(22, "a"))
	k.picks("reply 22 done z", node.PCall, node.PWork, node.PApply)
	is(t, k.n.View().Notices, 1)
	is(t, k.rest(), "snap 4")
	k.view("1 1 2 1; 4 4 4; stored 4 synced 4 snap 4")
}

// The last one counts that was loaded, or restored.
func TestP12_3_ApplyTakesBehindOthers(t *testing.T) {
	o := opts(1, 3)
	o.Every = 3
	d := saved(t, written(t, termed(4, 0, 8, of(1, 1, 1, 1, 2, 2, 2, 3, 4)...)), storeWith(5, 2, "a", "x"))
	k := opened(t, o, d)
	is(t, k.rest(), "apply 6, apply 7, apply 8, snap 8")
	k.log("8 4 ")
	k = opened(t, o, saved(t, written(t, termed(4, 0, 7, of(1, 1, 1, 1, 2, 2, 2, 3, 4)...)), storeWith(5, 2, "a", "x")))
	is(t, k.rest(), "apply 6, apply 7")

	k = made(t, o)
	k.steps(snapMsg(2, 4, storeWith(9, 3, "a", "x")))
	is(t, k.rest(), "sync 1, send 1>2 AppAns t4 i9")
	k.steps(app(2, 4, 9, 3, 11, of(10, 3, 3)...))
	is(t, k.rest(), "sync 2, send 1>2 AppAns t4 i11, apply 10, apply 11")
	k.steps(app(2, 4, 11, 3, 12, of(12, 4)...))
	is(t, k.rest(), "sync 3, send 1>2 AppAns t4 i12, apply 12, snap 12")
	k.log("12 4 ")
	is(t, k.d.List(), "[snap-0000000000000000009 snap-0000000000000000012 wal-00000001]")
}

// One that was taken ahead of a snapshot from the leader, and is saved behind it, is an older one; it is told, but the core
// doesn't take it.
func TestP12_3_OlderSnapshotLater(t *testing.T) {
	o := opts(1, 3)
	o.Every = 2
	k := follower(t, o, of(1, 1, 1)...)
	k.steps(snapMsg(2, 4, storeWith(9, 3, "a", "x")))
	k.picks("", node.PWork)
	k.picks("apply 1, apply 2", node.PApply)
	is(t, k.n.View().Notices, 2)
	k.picks("", node.PNotice, node.PNotice)
	is(t, k.n.View().Jobs, 2)
	k.picks("", node.PWrite)
	is(t, k.n.View().Snap, 9)
	k.picks("snap 2, sync 2", node.PWrite, node.PSync)
	is(t, k.n.View().Snap, 2)
	is(t, k.d.List(), "[snap-0000000000000000002 snap-0000000000000000009 wal-00000001]")
	k.rest()
	k.log("9 3 ")
	is(t, say(k.n.View().Stored, k.n.View().Snap), "9 2")
	is(t, opened(t, o, k.d).n.View().Snap, 9)
}
