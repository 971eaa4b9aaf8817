package node_test

import (
	"testing"

	"synod/api"
	"synod/core"
	"synod/node"
)

// The core's part is its Status, whole.
func TestP12_6_Core(t *testing.T) {
	k := made(t, opts(1, 3))
	c, _ := core.New(opts(1, 3).Core, api.State{}, api.Snap{}, nil, 0)
	is(t, k.n.View().Core, c.Status())
	for draw := range 30 {
		k.n.Tick(draw)
		k.picks("", node.PTick)
		c.Tick(draw)
		is(t, k.n.View().Core, c.Status())
	}
	m := app(3, 4, 0, 0, 1, of(1, 1, 2)...)
	k.steps(m)
	c.Step(m)
	is(t, k.n.View().Core, c.Status())
}

// Each queue is counted as its own: one more thing in it is one more there, and nowhere else.
func TestP12_6_Counts(t *testing.T) {
	k := serving(t, opts(1, 3))
	base := "1 1 2 1; 1 1 1; stored 1 synced 3"
	k.view(base)
	k.n.Deliver(nil)
	k.view(base + " inbox 1")
	k.n.Tick(0)
	k.n.Tick(0)
	k.view(base + " inbox 1 ticks 2")
	k.calls(puts(5, "a", "x"), gets(6, "a"))
	k.view(base + " inbox 1 ticks 2 calls 2")
	k.picks("", node.PCall)
	base = "1 1 2 1; 1 1 2; stored 1 synced 3"
	k.view(base + " inbox 1 ticks 2 calls 1 pending 1")
	k.picks("", node.PCall)
	k.view(base + " inbox 1 ticks 2 waiting 1 pending 1")
	k.picks("", node.PInbox, node.PWork)
	k.view(base + " ticks 2 jobs 1 out 3 waiting 1 pending 1")
	k.picks("", node.PWrite)
	k.view(base + " ticks 2 held 1 out 3 waiting 1 pending 1")
	k.picks("sync 4", node.PSync)
	base = "1 1 2 1; 1 1 2; stored 1 synced 4"
	k.view(base + " notices 1 ticks 2 out 3 waiting 1 pending 1")
	k.steps(appYes(3, 1, 1), beatAns(2, 1, 1))
	k.picks("", node.PWork)
	k.view(base + " notices 1 ticks 2 applies 1 out 5 waiting 1 pending 1")
	k.picks("reply 6 none", node.PApply)
	k.view(base + " notices 1 ticks 2 out 5 pending 1")
	k.picks("send 1>3 Beat t1 x1", node.PSend)
	k.view(base + " notices 1 ticks 2 out 4 pending 1")
}

// A read that is ready and has no reply yet waits.
func TestP12_6_WaitingReady(t *testing.T) {
	o := opts(1, 3)
	o.Core.Batch = 1
	k := serving(t, o)
	k.calls(puts(7, "a", "x"), puts(8, "a", "y"))
	k.picks("", node.PCall, node.PCall)
	k.sweep(node.PWork, node.PWrite, node.PSync, node.PNotice, node.PSend)
	k.steps(appYes(2, 1, 3))
	k.calls(gets(9, "a"))
	k.picks("", node.PCall)
	k.steps(beatAns(2, 1, 1))
	k.picks("apply 2, reply 7 done", node.PWork, node.PApply)
	is(t, k.n.View().Waiting, 1)
	k.picks("apply 3, reply 8 done, reply 9 done y", node.PWork, node.PApply)
	is(t, k.n.View().Waiting, 0)
}

// Synced is what a sync told last; Snap the snapshot that was loaded, saved or installed last.
func TestP12_6_SyncedAndSnap(t *testing.T) {
	o := opts(1, 3)
	o.Every = 2
	k := opened(t, o, saved(t, written(t, termed(4, 0, 0)), storeWith(5, 3, "a", "x")))
	is(t, say(k.n.View().Synced, k.n.View().Snap), "0 5")
	k.steps(app(2, 4, 5, 3, 7, of(6, 4, 4)...))
	k.picks("sync 1", node.PWork, node.PWrite, node.PSync, node.PNotice)
	k.picks("apply 6, apply 7", node.PWork, node.PApply)
	is(t, say(k.n.View().Synced, k.n.View().Snap), "1 5")
	k.picks("", node.PNotice, node.PNotice, node.PWrite)
	// Written, and not synced yet.
	is(t, say(k.n.View().Synced, k.n.View().Snap), "1 5")
	k.picks("snap 7", node.PSync)
	is(t, say(k.n.View().Synced, k.n.View().Snap), "1 7")
	k.steps(snapMsg(2, 4, storeWith(20, 4, "a", "y")))
	k.picks("", node.PWork)
	is(t, k.n.View().Snap, 7)
	k.picks("", node.PWrite)
	is(t, say(k.n.View().Synced, k.n.View().Snap), "1 20")
	k.picks("sync 2", node.PSync)
	is(t, say(k.n.View().Synced, k.n.View().Snap, k.n.View().Stored), "2 20 7")
	k.picks("", node.PApply)
	is(t, k.n.View().Stored, 20)
}

// Get, Sessions and Log, of a node that is up, of one that is stopped, and of one that went down.
func TestP12_6_Reads(t *testing.T) {
	k := led(t, opts(1, 1))
	look := func(want string) {
		t.Helper()
		base, term, l := k.n.Log()
		is(t, say(shownReply(k.n.Get("a")), shownReply(k.n.Get("")), k.n.Sessions(), base, term, shownEntries(l)), want)
	}
	look("none none [] 0 0 1/1")
	k.calls(puts(7, "a", "x"), node.Call{ID: 8, Command: put(3, 5, "b", "y")})
	k.picks("", node.PCall, node.PCall)
	look("none none [] 0 0 1/1 2/1x 3/1x")
	k.rest()
	want := "done x none [{1 7 {1 }} {3 5 {1 }}] 0 0 1/1 2/1x 3/1x"
	look(want)
	k.n.Stop()
	look(want)
	k = led(t, opts(1, 1))
	k.calls(puts(7, "a", "x"), node.Call{ID: 8, Command: put(3, 5, "b", "y")})
	k.rest()
	k.ticks(1)
	k.stores(puts(9, "a", "z"))
	k.d.Arm(1)
	k.picks("down", node.PWrite)
	look(want + " 4/1x")
	k.view("1 1 2 1; 3 3 4; down stored 3 synced 4 pending 1")
	k.d.Crash(0)
	look(want + " 4/1x")
	k.view("1 1 2 1; 3 3 4; down stored 3 synced 4 pending 1")
}
