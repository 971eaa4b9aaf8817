package node_test

import (
	"fmt"
	"testing"

	"synod/api"
	"synod/disk"
	"synod/node"
	"synod/snap"
)

// crashed is what the wal and the snapshots of a disk say behind a crash that keeps nothing, as text.
func crashed(t *testing.T, d *disk.Disk) string {
	t.Helper()
	copied, _ := disk.Load(d.Files())
	copied.Crash(0)
	return say(walOf(t, copied), snap.List(copied))
}

// writes tells how many writes of the disk a pick does: the greatest number that it is armed with and goes down at.
func writes(t *testing.T, make func() kit, kind int) int {
	t.Helper()
	for n := 1; ; n++ {
		k := make()
		k.d.Arm(n)
		l, did := k.n.Pick(kind)
		if !did {
			t.Fatalf("the pick %d does nothing", kind)
		}
		if k.n.View().Up {
			return n - 1
		}
		is(t, shown(l), "down")
		k.idle(all()...)
	}
}

// A job is written, and durable only when it was synced.
func TestP12_3_Write(t *testing.T) {
	k := made(t, opts(1, 1))
	k.idle(node.PWrite, node.PSync)
	k.ticks(10)
	k.idle(node.PWrite)
	k.picks("", node.PWork)
	k.idle(node.PSync)
	is(t, walOf(t, k.d), "{0 0 0} 0 0 ")
	k.picks("", node.PWrite)
	k.view("1 1 2 1; 0 0 1; held 1")
	is(t, walOf(t, k.d), "{1 1 0} 0 0 1/1")
	is(t, crashed(t, k.d), "{0 0 0} 0 0  []")
	k.idle(node.PWrite, node.PNotice)
	k.picks("sync 1", node.PSync)
	k.view("1 1 2 1; 0 0 1; synced 1 notices 1")
	is(t, crashed(t, k.d), "{1 1 0} 0 0 1/1 []")
	k.idle(node.PSync)
}

// Jobs are written in their order; a sync is of all that is held.
func TestP12_3_WriteInOrder(t *testing.T) {
	k := led(t, opts(1, 1))
	k.stores(puts(7, "a", "x"), puts(8, "a", "y"), puts(9, "a", "z"))
	k.picks("", node.PWrite)
	is(t, walOf(t, k.d), "{1 1 1} 0 0 1/1 2/1x")
	k.picks("", node.PWrite)
	is(t, walOf(t, k.d), "{1 1 1} 0 0 1/1 2/1x 3/1x")
	k.view("1 1 2 1; 1 1 4; stored 1 synced 2 jobs 1 held 2 pending 3")
	k.picks("sync 4", node.PSync)
	k.view("1 1 2 1; 1 1 4; stored 1 synced 4 notices 2 jobs 1 pending 3")
	is(t, crashed(t, k.d), "{1 1 1} 0 0 1/1 2/1x 3/1x []")
}

// A work that has messages alone is written, too: it may begin a segment, and is synced.
func TestP12_3_WriteOfMessages(t *testing.T) {
	o := opts(1, 3)
	o.Segment = 64
	k := made(t, o)
	k.steps(app(2, 1, 0, 0, 0, of(1, 1, 1, 1, 1)...))
	k.rest()
	is(t, k.d.List(), "[wal-00000001]")
	k.steps(beat(2, 1, 0, 7))
	k.picks("", node.PWork)
	k.view("1 0 0 2; 0 0 4; synced 1 jobs 1")
	k.picks("", node.PWrite)
	is(t, k.d.List(), "[wal-00000001 wal-00000002]")
	k.picks("sync 2, send 1>2 BeatAns t1 x7", node.PSync, node.PSend)
}

// What is to go behind the sync goes to the lanes then, work by work.
func TestP12_3_SyncLetsGo(t *testing.T) {
	k := made(t, opts(1, 3))
	k.steps(vote(2, 1, 0, 0))
	k.picks("", node.PWork)
	k.steps(vote(3, 1, 0, 0), vote(2, 1, 0, 0))
	k.picks("", node.PWork, node.PWrite)
	k.idle(node.PSend)
	k.picks("", node.PWrite)
	k.idle(node.PSend)
	k.picks("sync 2", node.PSync)
	is(t, k.n.View().Out, 3)
	is(t, k.sweep(node.PSend), "send 1>2 VoteAns t1, send 1>3 VoteAns t1 no, send 1>2 VoteAns t1")
}

// installing is a node with entries up to 3 that has a snapshot to write: of a new term, or of the term it is in.
func installing(t *testing.T, term int) kit {
	t.Helper()
	k := made(t, opts(1, 3))
	k.steps(app(2, 4, 0, 0, 2, of(1, 1, 1, 1)...))
	k.rest()
	k.steps(snapMsg(2, term, storeWith(9, 3, "a", "x")))
	k.steps(app(2, term, 9, 3, 9, of(10, 4)...))
	k.picks("", node.PWork)
	return k
}

// The snapshot's term is durable ahead of it, its commitment only behind it.
func TestP12_3_WriteOfSnap(t *testing.T) {
	before := "{4 0 2} 0 0 1/1 2/1 3/1 []"
	termed := "{5 0 2} 0 0 1/1 2/1 3/1 []"
	installed := "{5 0 2} 0 0 1/1 2/1 3/1 [9]"
	// The state is appended and synced; the snapshot's file is created, appended, synced, renamed; the rest is appended.
	for i, want := range []string{before, before, termed, termed, termed, termed, installed} {
		k := installing(t, 5)
		k.d.Arm(i + 1)
		k.picks("down", node.PWrite)
		is(t, crashed(t, k.d), want)
		is(t, k.n.View().Jobs, 0)
		is(t, k.n.View().Held, 0)
	}
	is(t, writes(t, func() kit { return installing(t, 5) }, node.PWrite), 7)
	k := installing(t, 5)
	is(t, crashed(t, k.d), before)
	is(t, k.n.View().Snap, 0)
	k.picks("", node.PWrite)
	is(t, k.n.View().Snap, 9)
	is(t, crashed(t, k.d), installed)
	is(t, walOf(t, k.d), "{5 0 9} 9 3 10/4")
	k.picks("sync 2", node.PSync)
	is(t, crashed(t, k.d), "{5 0 9} 9 3 10/4 [9]")
}

// Of a state with a commitment alone there is nothing to append ahead of the snapshot, but the wal is synced.
func TestP12_3_WriteOfSnapInItsTerm(t *testing.T) {
	is(t, writes(t, func() kit { return installing(t, 4) }, node.PWrite), 6)
	// What was written ahead of it is durable then.
	for i, want := range []string{"{0 0 0} 0 0  []", "{4 0 0} 0 0 1/1 []"} {
		k := made(t, opts(1, 3))
		k.steps(app(2, 4, 0, 0, 0, of(1, 1)...))
		k.picks("", node.PWork)
		k.steps(snapMsg(2, 4, storeWith(9, 3, "a", "x")))
		k.picks("", node.PWork, node.PWrite)
		k.d.Arm(i + 1)
		k.picks("down", node.PWrite)
		is(t, crashed(t, k.d), want)
	}
}

// taking is a node that leads alone and has a job that saves a snapshot, at 2; works of one segment each stand in the wal.
func taking(t *testing.T) kit {
	t.Helper()
	o := opts(1, 1)
	o.Every, o.Segment = 2, 64
	k := led(t, o)
	k.stores(puts(7, "a", "x"))
	k.picks("sync 3, apply 2, reply 7 done", node.PWrite, node.PSync, node.PNotice, node.PWork, node.PApply)
	k.picks("sync 4", node.PWrite, node.PSync)
	k.picks("", node.PNotice, node.PNotice, node.PNotice)
	k.view("1 1 2 1; 2 2 2; stored 2 synced 4 jobs 1")
	return k
}

func TestP12_3_WriteOfSaved(t *testing.T) {
	is(t, writes(t, func() kit { return taking(t) }, node.PWrite), 4)
	k := taking(t)
	k.picks("", node.PWrite)
	k.view("1 1 2 1; 2 2 2; stored 2 synced 4 held 1")
	s, _, e := snap.Load(k.d)
	is(t, say(s.Index, s.Term, e), "2 1 0")
	is(t, len(s.Data) > 0, true)
	// It is told as saved by the sync, which tells no number: there was no work.
	k.picks("snap 2", node.PSync)
	k.view("1 1 2 1; 2 2 2; stored 2 synced 4 snap 2 notices 1")
	k.picks("", node.PNotice)
	k.log("2 1 ")
	k.idle(node.PNotice, node.PSync)
}

// Saved and worked jobs are held together: each in its order, the number last.
func TestP12_3_SyncOfBoth(t *testing.T) {
	k := taking(t)
	k.stores(puts(8, "b", "y"))
	k.picks("", node.PWrite, node.PWrite)
	is(t, k.n.View().Held, 2)
	k.picks("snap 2, sync 5", node.PSync)
	k.view("1 1 2 1; 2 2 3; stored 2 synced 5 snap 2 notices 2 pending 1")
	k.picks("", node.PNotice)
	k.log("2 1 3/1x")
	is(t, k.n.View().Core.Commit, 2)
	k.picks("", node.PNotice)
	is(t, k.n.View().Core.Commit, 3)
}

// What a snapshot stands for goes from the disk: segments, and all snapshots but two.
func TestP12_3_SyncTidies(t *testing.T) {
	o := opts(1, 1)
	o.Every, o.Segment = 2, 64
	k := led(t, o)
	lists := []string{}
	for i := range 8 {
		k.calls(puts(7+i, "a", "x"))
		k.rest()
		lists = append(lists, say(snap.List(k.d)))
	}
	is(t, say(lists), "[[2] [2] [2 4] [2 4] [4 6] [4 6] [6 8] [6 8]]")
	for _, name := range k.d.List() {
		if name < "wal-00000005" && name >= "wal-" {
			t.Errorf("%s is still there", name)
		}
	}
}

// The disk fails at each write of a sync: what was done ahead of it stands.
func TestP12_3_SyncFails(t *testing.T) {
	ready := func() kit {
		k := taking(t)
		k.stores(puts(8, "b", "y"))
		k.picks("", node.PWrite, node.PWrite)
		k.d.Create(snap.Temp) // it is removed by Keep
		return k
	}
	k := ready()
	is(t, k.d.List(), "[snap-0000000000000000002 snap.tmp wal-00000001 wal-00000002]")
	// The wal's sync; Compact's sync, and the first segment; Temp.
	is(t, writes(t, ready, node.PSync), 4)
	k.picks("snap 2, sync 5", node.PSync)
	is(t, k.d.List(), "[snap-0000000000000000002 wal-00000002]")
	for i, want := range []string{"{1 1 2} 0 0 1/1 2/1x [2]", "{1 1 2} 0 0 1/1 2/1x 3/1x [2]", "{1 1 2} 0 0 1/1 2/1x 3/1x [2]", "{1 1 2} 2 1 3/1x [2]"} {
		k := ready()
		k.d.Arm(i + 1)
		k.picks("down", node.PSync)
		k.view("1 1 2 1; 2 2 3; down stored 2 synced 4 held 2 pending 1")
		is(t, k.n.Done(), false)
		is(t, crashed(t, k.d), want)
	}
}

// Behind a failed sync no message goes, and nothing is told of it.
func TestP12_10_FailedSync(t *testing.T) {
	k := made(t, opts(1, 3))
	k.steps(vote(2, 1, 0, 0))
	k.picks("", node.PWork, node.PWrite)
	k.d.Arm(1)
	k.picks("down", node.PSync)
	k.view("1 2 0 0; 0 0 0; down held 1")
	k.d.Crash(0)
	k.view("1 2 0 0; 0 0 0; down held 1")
	is(t, opened(t, opts(1, 3), k.d).n.View().Core.Vote, 0)
}

// The disk is full: the node goes down, though the disk doesn't.
func TestP12_3_DiskFull(t *testing.T) {
	k := led(t, opts(1, 1))
	k.stores(puts(7, "a", "x"))
	k.d.Create("other")
	k.d.Append("other", make([]byte, api.MaxDisk-k.d.Size()))
	k.picks("down", node.PWrite)
	is(t, k.d.Down(), false)
	k.idle(all()...)
	k = taking(t)
	for i := 1; len(k.d.List()) < api.MaxFiles; i++ {
		k.d.Create(fmt.Sprint("f", i))
	}
	k.picks("down", node.PWrite)
	k.idle(all()...)
}
