package node_test

import (
	"testing"

	"synod/disk"
	"synod/node"
)

func loopPicks() []int {
	return []int{node.PNotice, node.PWork, node.PInbox, node.PTick, node.PCall}
}

// busy is a node with something in each of its queues, and something held.
func busy(t *testing.T) kit {
	t.Helper()
	k := serving(t, opts(1, 3))
	k.calls(puts(7, "a", "x"))
	k.picks("", node.PCall, node.PWork)
	k.picks("sync 4", node.PWrite, node.PSync)
	k.steps(appYes(3, 1, 1))
	k.picks("", node.PNotice)
	k.steps(appYes(2, 1, 2))
	k.picks("", node.PWork, node.PWrite)
	k.calls(puts(8, "b", "y"))
	k.picks("", node.PCall, node.PWork)
	k.calls(gets(9, "a"), puts(10, "c", "z"))
	k.picks("", node.PCall)
	k.n.Tick(0)
	k.n.Deliver(framed(beatAns(2, 1, 1)))
	k.picks("apply 2, reply 7 done", node.PApply)
	return k
}

// The first pick of the loop's kinds ends it, whatever it has; further ones do nothing.
func TestP12_5_Loop(t *testing.T) {
	for _, first := range loopPicks() {
		k := led(t, opts(1, 1))
		k.stores(puts(7, "a", "x"))
		k.picks("sync 3", node.PWrite, node.PSync)
		k.n.Tick(0)
		k.n.Deliver(nil)
		k.calls(puts(8, "a", "x"))
		k.n.Stop()
		was := "1 1 2 1; 1 1 2; stopped stored 1 synced 3 notices 1 inbox 1 ticks 1 calls 1 pending 1"
		k.view(was)
		k.picks("end 1", first)
		k.view(was)
		k.idle(loopPicks()...)
		k.idle(first)
	}
	// With nothing to do.
	for _, first := range loopPicks() {
		k := made(t, opts(1, 3))
		k.n.Stop()
		k.picks("end 1", first)
		k.idle(loopPicks()...)
	}
}

// The writer does what it has, and ends behind the loop: by either of its picks.
func TestP12_5_Writer(t *testing.T) {
	for _, last := range []int{node.PWrite, node.PSync} {
		k := led(t, opts(1, 1))
		k.stores(puts(7, "a", "x"), puts(8, "b", "y"))
		k.picks("", node.PWrite)
		k.n.Stop()
		k.picks("", node.PWrite)
		k.idle(node.PWrite)
		k.picks("end 1", node.PCall)
		// Something is held.
		k.idle(node.PWrite)
		k.picks("sync 4", node.PSync)
		is(t, k.n.View().Notices, 2)
		k.picks("end 2", last)
		k.idle(node.PWrite, node.PSync)
	}
	// A job is left: a sync doesn't end the writer.
	k := led(t, opts(1, 1))
	k.stores(puts(7, "a", "x"))
	k.n.Stop()
	k.idle(node.PSync)
	k.picks("end 1", node.PTick)
	k.idle(node.PSync)
	k.picks("sync 3, end 2", node.PWrite, node.PSync, node.PSync)
	// Not ahead of the loop.
	k = made(t, opts(1, 3))
	k.n.Stop()
	k.idle(node.PWrite, node.PSync, node.PApply, node.PSend)
	k.picks("end 1, end 2", node.PNotice, node.PWrite)
}

func TestP12_5_Applier(t *testing.T) {
	k := led(t, opts(1, 1))
	k.stores(puts(7, "a", "x"))
	k.picks("sync 3", node.PWrite, node.PSync, node.PNotice, node.PWork)
	k.calls(gets(8, "a"))
	k.picks("", node.PCall, node.PWork)
	k.n.Stop()
	k.picks("apply 2, reply 7 done", node.PApply)
	is(t, k.n.View().Notices, 1)
	k.picks("end 1", node.PNotice)
	k.picks("reply 8 done x", node.PApply)
	k.picks("end 3", node.PApply)
	k.idle(node.PApply)
	is(t, k.n.View().Notices, 1)
	// Not ahead of the loop; without the writer.
	k = made(t, opts(1, 3))
	k.n.Stop()
	k.idle(node.PApply)
	k.picks("end 1, end 3", node.PNotice, node.PApply)
}

// A snapshot that nobody takes is on its way for good.
func TestP12_5_Taken(t *testing.T) {
	o := opts(1, 1)
	o.Every, o.Core.Batch = 1, 1
	k := made(t, o)
	k.ticks(10)
	k.calls(puts(7, "a", "x"))
	k.picks("", node.PCall, node.PWork)
	k.picks("sync 1", node.PWrite, node.PSync, node.PNotice, node.PWork, node.PWork)
	k.n.Stop()
	k.picks("apply 1", node.PApply)
	is(t, k.n.View().Notices, 2)
	k.picks("apply 2, reply 7 done", node.PApply)
	is(t, k.n.View().Notices, 3)
	is(t, k.sweep(all()...), "end 1, sync 2, end 2, end 3, end 4")
	is(t, k.n.View().Snap, 0)
}

// The sender does what it has, and ends behind the writer.
func TestP12_5_Sender(t *testing.T) {
	k := made(t, opts(1, 3))
	k.steps(vote(2, 1, 0, 0))
	k.picks("", node.PWork)
	k.n.Stop()
	k.idle(node.PSend)
	k.picks("end 1", node.PNotice)
	k.idle(node.PSend)
	k.picks("end 3", node.PApply)
	k.idle(node.PSend)
	k.picks("sync 1", node.PWrite, node.PSync)
	k.picks("send 1>2 VoteAns t1", node.PSend)
	k.idle(node.PSend)
	k.picks("end 2", node.PWrite)
	is(t, k.n.Done(), false)
	k.picks("end 4", node.PSend)
	is(t, k.n.Done(), true)
	k.idle(all()...)
	k.view("1 2 0 0; 0 0 0; stopped synced 1 notices 1")
}

// Messages that are left when the writer has ended are sent first.
func TestP12_5_SenderBehindWriter(t *testing.T) {
	k := made(t, opts(1, 3))
	k.steps(vote(2, 1, 0, 0), vote(3, 1, 0, 0))
	k.picks("sync 1", node.PWork, node.PWrite, node.PSync)
	k.n.Stop()
	k.picks("end 1, end 2", node.PNotice, node.PSync)
	k.picks("send 1>2 VoteAns t1, send 1>3 VoteAns t1 no, end 4", node.PSend, node.PSend, node.PSend)
	k.idle(node.PSend)
	is(t, k.n.Done(), false)
	k.picks("end 3", node.PApply)
	is(t, k.n.Done(), true)
}

// Stop again does nothing; nor does it to a node that isn't up.
func TestP12_5_Again(t *testing.T) {
	k := made(t, opts(1, 3))
	is(t, k.n.Done(), false)
	k.n.Stop()
	k.n.Stop()
	k.view("0 0 0 0; 0 0 0; stopped")
	is(t, k.rest(), "end 1, end 2, end 3, end 4")
	k.n.Stop()
	k.idle(all()...)
	is(t, k.n.Done(), true)
	k.view("0 0 0 0; 0 0 0; stopped")

	k = downed(t)
	k.n.Stop()
	is(t, say(k.n.View().Stopped, k.n.Done()), "false false")
}

// A node that is stopped may go down; its tasks don't end then.
func TestP12_5_Down(t *testing.T) {
	k := opened(t, opts(1, 1), disk.New())
	k.ticks(10)
	k.picks("", node.PWork)
	k.n.Stop()
	k.picks("end 1", node.PTick)
	k.d.Arm(1)
	k.picks("down", node.PWrite)
	k.view("1 1 2 1; 0 0 1; down stopped")
	k.idle(all()...)
	is(t, k.n.Done(), false)
}

// All that is in the queues of the three others is done.
func TestP12_5_Busy(t *testing.T) {
	k := busy(t)
	k.view("1 1 2 1; 2 1 3; stored 2 synced 4 notices 1 inbox 1 ticks 1 calls 1 jobs 1 held 1 out 6 waiting 1 pending 1")
	k.n.Stop()
	is(t, k.rest(), "end 1, sync 6, end 2, end 3, "+
		"send 1>3 App t1 i1 l1 c1 [2/1x], send 1>2 App t1 i1 l1 c1 [2/1x], send 1>3 App t1 i2 l1 c2, "+
		"send 1>2 App t1 i2 l1 c2, send 1>3 App t1 i2 l1 c2 [3/1x], send 1>2 App t1 i2 l1 c2 [3/1x], end 4")
	is(t, k.n.Done(), true)
	k.view("1 1 2 1; 2 1 3; stopped stored 2 synced 6 notices 3 inbox 1 ticks 1 calls 1 waiting 1 pending 1")
}
