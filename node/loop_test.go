package node_test

import (
	"testing"

	"synod/api"
	"synod/disk"
	"synod/frame"
	"synod/node"
)

// stores lets calls be done by a node that leads alone: each is a work of its own.
func (k kit) stores(l ...node.Call) {
	k.t.Helper()
	for _, c := range l {
		k.calls(c)
		k.picks("", node.PCall, node.PWork)
	}
}

func TestP12_3_NoticeOfSync(t *testing.T) {
	k := led(t, opts(1, 1))
	k.stores(puts(7, "a", "x"), puts(8, "b", "y"))
	k.view("1 1 2 1; 1 1 3; stored 1 synced 2 jobs 2 pending 2")
	k.picks("sync 4", node.PWrite, node.PWrite, node.PSync)
	// Each work has a notice of its own.
	k.view("1 1 2 1; 1 1 3; stored 1 synced 4 notices 2 pending 2")
	k.picks("", node.PNotice)
	k.view("1 1 2 1; 2 1 3; stored 1 synced 4 notices 1 pending 2")
	k.picks("", node.PNotice)
	k.view("1 1 2 1; 3 1 3; stored 1 synced 4 pending 2")
	k.idle(node.PNotice)
}

func TestP12_3_NoticeOfApply(t *testing.T) {
	k := led(t, opts(1, 1))
	k.stores(puts(7, "a", "x"))
	k.picks("sync 3", node.PWrite, node.PSync, node.PNotice, node.PWork)
	k.picks("apply 2, reply 7 done", node.PApply)
	k.view("1 1 2 1; 2 1 2; stored 2 synced 3 notices 1 jobs 1")
	k.picks("", node.PNotice)
	k.view("1 1 2 1; 2 2 2; stored 2 synced 3 jobs 1")
}

// The notices have no bound, and are taken in their order.
func TestP12_3_ManyNotices(t *testing.T) {
	const many = 3*api.MaxQueue + 5
	o := opts(1, 1)
	o.Core.Pending = api.MaxLog
	k := led(t, o)
	for i := range many {
		k.stores(puts(10+i, "a", ""))
		k.picks(say("sync", 3+i), node.PWrite, node.PSync)
		is(t, k.n.View().Notices, i+1)
	}
	for i := range many {
		k.picks("", node.PNotice)
		is(t, say(k.n.View().Core.Commit, k.n.View().Notices), say(2+i, many-1-i))
	}
	k.idle(node.PNotice)
	k.stores(puts(999, "a", ""))
	k.picks(say("sync", 3+many), node.PWrite, node.PSync)
	is(t, k.n.View().Notices, 1)
}

// A snapshot that was taken waits for room among the jobs, and all notices behind it do.
func TestP12_3_NoticeOfTaken(t *testing.T) {
	o := opts(1, 1)
	o.Every, o.Jobs = 2, 2
	k := led(t, o)
	k.stores(puts(7, "a", "x"))
	k.picks("sync 3, apply 2, reply 7 done", node.PWrite, node.PSync, node.PNotice, node.PWork, node.PApply)
	k.picks("", node.PNotice)
	k.stores(puts(8, "b", "y"))
	k.view("1 1 2 1; 2 2 3; stored 2 synced 3 notices 1 jobs 2 pending 1")
	k.idle(node.PNotice, node.PNotice)
	k.picks("sync 4", node.PWrite, node.PSync)
	k.view("1 1 2 1; 2 2 3; stored 2 synced 4 notices 2 jobs 1 pending 1")
	k.picks("", node.PNotice)
	k.view("1 1 2 1; 2 2 3; stored 2 synced 4 notices 1 jobs 2 pending 1")
	k.picks("", node.PNotice)
	k.picks("", node.PWrite, node.PWrite)
	is(t, k.d.Has("snap-0000000000000000002"), true)
	k.picks("snap 2, sync 5", node.PSync)
}

// A snapshot that was saved: the log is compacted, but for what Keep says.
func TestP12_3_NoticeOfSaved(t *testing.T) {
	for _, x := range []struct {
		keep int
		log  string
	}{{0, "4 1 "}, {1, "3 1 4/1x"}, {3, "1 1 2/1x 3/1x 4/1x"}, {4, "0 0 1/1 2/1x 3/1x 4/1x"}, {api.MaxLog, "0 0 1/1 2/1x 3/1x 4/1x"}} {
		o := opts(1, 1)
		o.Every, o.Keep = 4, x.keep
		k := led(t, o)
		for i := range 2 {
			k.calls(puts(7+i, "a", "x"))
			k.rest()
		}
		k.log("0 0 1/1 2/1x 3/1x")
		k.calls(puts(9, "a", "y"))
		is(t, k.rest(), "sync 7, sync 8, apply 4, reply 9 done, snap 4")
		k.log(x.log)
	}
}

// A work isn't asked for where jobs or applies has no room; then it is told later, whole.
func TestP12_3_WorkWaitsForRoom(t *testing.T) {
	o := opts(1, 1)
	o.Jobs, o.Applies = 1, 4
	k := led(t, o)
	k.stores(puts(7, "a", "x"))
	k.calls(puts(8, "b", "y"))
	k.picks("", node.PCall)
	k.idle(node.PWork, node.PWork)
	k.picks("", node.PWrite, node.PWork)
	k.idle(node.PWork)
	is(t, k.rest(), "sync 4, sync 5, apply 2, reply 7 done, apply 3, reply 8 done")

	o.Jobs, o.Applies = 4, 1
	k = led(t, o)
	k.calls(gets(5, "a"), puts(7, "a", "x"))
	k.picks("", node.PCall, node.PWork, node.PCall)
	k.view("1 1 2 1; 1 1 2; stored 1 synced 2 applies 1 waiting 1 pending 1")
	k.idle(node.PWork, node.PWork)
	k.picks("reply 5 none", node.PApply)
	is(t, k.rest(), "sync 3, sync 4, apply 2, reply 7 done")

	// Though it would have no job: beats alone.
	o = opts(1, 3)
	o.Jobs = 1
	k = serving(t, o)
	k.calls(puts(7, "a", "x"))
	k.picks("", node.PCall, node.PWork)
	k.ticks(1)
	k.idle(node.PWork)
	is(t, k.n.View().Out, 1)
	k.picks("", node.PWrite, node.PWork)
	is(t, k.n.View().Out, 3)
}

// What goes now, what goes behind the sync; what is a job, what an apply.
func TestP12_3_WorkIsDealt(t *testing.T) {
	k := made(t, opts(1, 3))
	k.idle(node.PWork)
	// State and messages behind it.
	k.ticks(10)
	k.picks("", node.PWork)
	k.view("1 1 1 0; 0 0 0; jobs 1")
	is(t, k.sweep(node.PWrite, node.PSync, node.PNotice, node.PSend), "sync 1, send 1>2 Vote t1, send 1>3 Vote t1")
	// Entries, and messages at once.
	k.steps(voteYes(3, 1))
	k.picks("", node.PWork)
	k.view("1 1 2 1; 0 0 1; synced 1 jobs 1 out 2")
	is(t, k.sweep(node.PSend), "send 1>2 App t1 [1/1], send 1>3 App t1 [1/1]")
	is(t, k.sweep(node.PWrite, node.PSync, node.PNotice), "sync 2")
	// State, a message at once, and what is to be applied.
	k.steps(appYes(3, 1, 1))
	k.picks("", node.PWork)
	k.view("1 1 2 1; 1 0 1; synced 2 jobs 1 applies 1 out 1")
	is(t, k.rest(), "sync 3, apply 1, send 1>3 App t1 i1 l1 c1")
	// Messages at once, and nothing else.
	k.ticks(1)
	k.picks("", node.PWork)
	k.view("1 1 2 1; 1 1 1; stored 1 synced 3 out 2")
	is(t, k.rest(), "send 1>2 Beat t1, send 1>3 Beat t1 c1")
	// Reads alone.
	k.calls(gets(4, "a"))
	k.picks("", node.PCall, node.PWork)
	k.steps(beatAns(3, 1, 1))
	k.picks("", node.PWork)
	k.view("1 1 2 1; 1 1 1; stored 1 synced 3 applies 1 out 2 waiting 1")
	is(t, k.rest(), "reply 4 none, send 1>2 Beat t1 x1, send 1>3 Beat t1 c1 x1")
	k.idle(node.PWork)
}

// A snapshot is written and restored.
func TestP12_3_WorkWithSnap(t *testing.T) {
	k := made(t, opts(1, 3))
	k.steps(snapMsg(2, 4, storeWith(9, 3, "a", "x")))
	k.picks("", node.PWork)
	k.view("4 0 0 2; 9 9 9; jobs 1 applies 1")
	k.picks("", node.PApply)
	k.view("4 0 0 2; 9 9 9; stored 9 notices 1 jobs 1")
	is(t, k.rest(), "sync 1, send 1>2 AppAns t4 i9")
	k.view("4 0 0 2; 9 9 9; stored 9 synced 1 snap 9")
}

// Reads that the core drops get RLead, in their order, and wait no longer.
func TestP12_3_WorkDropsReads(t *testing.T) {
	k := serving(t, opts(1, 3))
	k.calls(gets(5, "a"), gets(-3, "b"), gets(4, "c"))
	k.picks("", node.PCall, node.PCall, node.PCall, node.PWork)
	is(t, k.n.View().Waiting, 3)
	k.steps(vote(2, 9, 9, 8))
	is(t, k.n.View().Waiting, 3)
	k.picks("reply 5 lead, reply -3 lead, reply 4 lead", node.PWork)
	is(t, k.n.View().Waiting, 0)
	is(t, k.sweep(node.PWrite, node.PSync, node.PNotice, node.PWork, node.PApply), "sync 4")
}

// A message for which a lane has no room is dropped; the others go.
func TestP12_3_FullLanes(t *testing.T) {
	o := opts(1, 3)
	o.Out = 2
	k := serving(t, o)
	for i := range 5 {
		k.ticks(1)
		k.picks("", node.PWork)
		is(t, k.n.View().Out, min(4, 2*i+2))
	}
	is(t, k.sweep(node.PSend), "send 1>3 Beat t1, send 1>2 Beat t1 c1, send 1>3 Beat t1, send 1>2 Beat t1 c1")
	// One lane alone is full; the first ones stay.
	k.steps(beatAns(3, 1, 0), beatAns(3, 1, 0))
	k.picks("", node.PWork)
	is(t, k.n.View().Out, 2)
	k.ticks(1)
	k.picks("", node.PWork)
	is(t, k.sweep(node.PSend), "send 1>3 App t1 c1 [1/1], send 1>2 Beat t1 c1, send 1>3 App t1 c1 [1/1]")
	// The same of those that go behind a sync.
	k = made(t, o)
	k.steps(beat(2, 1, 0, 1), beat(2, 1, 0, 2), beat(2, 1, 0, 3))
	k.picks("", node.PWork)
	k.steps(beat(2, 1, 0, 4))
	k.picks("sync 2", node.PWork, node.PWrite, node.PWrite, node.PSync)
	is(t, k.sweep(node.PSend), "send 1>2 BeatAns t1 x1, send 1>2 BeatAns t1 x2")
}

// What isn't a message, or is refused, is taken, and does nothing.
func TestP12_3_InboxRefused(t *testing.T) {
	good := framed(vote(2, 7, 0, 0))
	spoilt := append([]byte(nil), good...)
	spoilt[len(spoilt)-1] ^= 1
	noText, _ := frame.Put([]byte{8, 1, 2})
	left, _ := frame.Put(append(append([]byte(nil), good[8:]...), 0))
	wrong := vote(2, 7, 0, 0)
	wrong.To = 3
	far := vote(4, 7, 0, 0)
	for i, b := range [][]byte{nil, {}, {0}, good[:len(good)-1], good[8:], append(append([]byte(nil), good...), 0), spoilt, noText, left, framed(wrong), framed(far)} {
		k := made(t, opts(1, 3))
		is(t, k.n.Deliver(b), true)
		is(t, k.n.View().Inbox, 1)
		k.picks("", node.PInbox)
		k.view("0 0 0 0; 0 0 0;")
		if _, did := k.n.Pick(node.PWork); did {
			t.Errorf("%d: there is work", i)
		}
		k.idle(node.PInbox)
	}
	k := made(t, opts(1, 3))
	k.n.Deliver(good)
	k.picks("", node.PInbox)
	k.view("7 2 0 0; 0 0 0;")
}

// The draws go to the core.
func TestP12_3_Ticks(t *testing.T) {
	k := made(t, opts(1, 3))
	k.idle(node.PTick)
	k.n.Tick(5)
	k.idle(node.PInbox, node.PCall)
	is(t, say(k.n.View().Core.Elapsed, k.n.View().Core.Timeout), "0 10")
	k.picks("", node.PTick)
	is(t, say(k.n.View().Core.Elapsed, k.n.View().Core.Timeout), "1 15")
	for _, draw := range far() {
		k.n.Tick(draw)
		k.picks("", node.PTick)
	}
	is(t, say(k.n.View().Core.Elapsed, k.n.View().Core.Timeout), "10 15")
	k.idle(node.PTick)
}

func TestP12_3_CallNotLed(t *testing.T) {
	k := made(t, opts(1, 3))
	k.idle(node.PCall)
	k.calls(gets(5, "a"), puts(6, "a", "x"))
	k.picks("reply 5 lead", node.PCall)
	k.picks("reply 6 lead", node.PCall)
	k.view("0 0 0 0; 0 0 0;")
	k.idle(node.PWork)
}

// A read that comes too early, and one too many: RBusy.
func TestP12_3_CallReads(t *testing.T) {
	k := made(t, opts(1, 1))
	k.ticks(10)
	k.calls(gets(5, "a"))
	k.picks("reply 5 busy", node.PCall)
	is(t, k.n.View().Waiting, 0)
	o := opts(1, 3)
	o.Core.Reads = 2
	k = serving(t, o)
	k.calls(gets(5, "a"), gets(6, "a"), gets(7, "a"))
	k.picks("reply 7 busy", node.PCall, node.PCall, node.PCall)
	is(t, k.n.View().Waiting, 2)
	k.steps(beatAns(2, 1, 2))
	is(t, k.sweep(node.PWork, node.PApply), "reply 5 none, reply 6 none")
	is(t, k.n.View().Waiting, 0)
}

// A command that finds no room in the log: RBusy; one behind the last index: RLimit.
func TestP12_3_CallCommands(t *testing.T) {
	o := opts(1, 1)
	o.Core.Pending = 2
	k := led(t, o)
	k.calls(puts(5, "a", "x"), puts(6, "a", "y"), puts(7, "a", "z"))
	k.picks("reply 7 busy", node.PCall, node.PCall, node.PCall)
	is(t, k.n.View().Pending, 2)
	is(t, k.rest(), "sync 3, sync 4, apply 2, reply 5 done, apply 3, reply 6 done")
	is(t, k.n.View().Pending, 0)

	k = opened(t, opts(1, 1), saved(t, written(t, termed(1, 0, 0)), storeWith(top-2, 1, "a", "x")))
	k.ticks(10)
	k.calls(puts(5, "a", "y"), puts(6, "a", "z"))
	k.picks("reply 6 limit", node.PCall, node.PCall)
	is(t, k.rest(), say("sync 1, sync 2, apply", top-1)+say(", apply", top)+", reply 5 done")
	k.calls(puts(7, "a", "y"), gets(8, "a"))
	k.picks("reply 7 limit", node.PCall)
	is(t, k.rest(), "reply 8 done y")
}

// usurped is a node that led in term 1, with calls 7, 8, 9 at the indices 2, 3, 4; in term 2 node 2 put another entry at 2;
// and it leads again, in term 3, with its empty one at 3.
func usurped(t *testing.T) kit {
	t.Helper()
	k := serving(t, opts(1, 3))
	k.calls(puts(7, "a", "x"), puts(8, "b", "y"), puts(9, "c", "z"))
	k.picks("", node.PCall, node.PCall, node.PCall)
	k.rest()
	k.steps(app(2, 2, 1, 1, 1, commands(2, 2, put(4, 1, "d", "other"))))
	k.rest()
	k.log("0 0 1/1 2/2x")
	k.ticks(10)
	k.rest()
	k.steps(voteYes(2, 3))
	k.rest()
	k.log("0 0 1/1 2/2x 3/3")
	is(t, k.n.View().Pending, 3)
	return k
}

// What was pending at an index is lost where another call is put there.
func TestP12_3_CallTakesAPlace(t *testing.T) {
	k := usurped(t)
	k.calls(puts(10, "a", "v"), puts(11, "a", "w"))
	k.picks("reply 9 lost", node.PCall)
	is(t, k.n.View().Pending, 3)
	k.picks("", node.PCall)
	is(t, k.n.View().Pending, 4)
	k.sweep(node.PWork, node.PWrite, node.PSync, node.PSend, node.PNotice)
	k.steps(appYes(2, 3, 5))
	// What stands at 2 and 3 is of another term than what is pending there.
	is(t, k.sweep(node.PWork, node.PApply), "apply 2, reply 7 lost, apply 3, reply 8 lost, apply 4, reply 10 done, apply 5, reply 11 done")
	is(t, k.n.View().Pending, 0)
	is(t, say(shownReply(k.n.Get("a")), shownReply(k.n.Get("b")), shownReply(k.n.Get("d"))), "done w none done other")
}

// There is no such kind of pick.
func TestP12_3_NoKind(t *testing.T) {
	k := made(t, opts(1, 3))
	k.n.Tick(0)
	k.n.Deliver(nil)
	k.calls(gets(1, "a"))
	k.idle(append(far(), 0, 10, 11)...)
	k.n.Stop()
	k.idle(append(far(), 0, 10, 11)...)
}

// Of a node that isn't up no pick does anything.
func TestP12_3_NotUp(t *testing.T) {
	k := opened(t, opts(1, 1), disk.New())
	k.ticks(10)
	k.n.Tick(0)
	k.n.Deliver(nil)
	k.picks("", node.PWork)
	k.calls(puts(1, "a", ""), gets(1, "a"))
	k.d.Arm(1)
	k.picks("", node.PCall)
	k.picks("down", node.PWrite)
	k.idle(append(all(), far()...)...)
	k.n.Stop()
	k.idle(all()...)
	k.view("1 1 2 1; 0 0 2; down inbox 1 ticks 1 calls 1 pending 1")
	// The disk is up again, but this node isn't.
	k.d.Crash(0)
	k.idle(all()...)
}
