package node_test

import (
	"bytes"
	"slices"
	"testing"

	"synod/api"
	"synod/disk"
	"synod/node"
)

// pure holds what a node told in its life against a core of its own that is given the same inputs in the same order.
func (c *cluster) pure(s *site) {
	var now, after [api.MaxNodes + 1][][]byte
	var entries, numbers []int
	fresh := s.m.begun()
	for _, do := range s.m.script {
		w := do(fresh)
		for _, m := range w.Now {
			now[m.To] = append(now[m.To], framed(m))
		}
		for _, m := range w.After {
			after[m.To] = append(after[m.To], framed(m))
		}
		for _, x := range w.Apply {
			entries = append(entries, x.Index)
		}
		numbers = append(numbers, w.Number)
	}
	if fresh.Status() != s.n.View().Core {
		c.t.Fatalf("the node's core is at %v; this one at %v\n%s", s.n.View().Core, fresh.Status(), s.tale())
	}
	// To each node its messages go in the order in which the core told them, but for those that were dropped.
	for _, e := range s.sent {
		l := &after[e.Number]
		if m, _ := message(e.Data); m.Kind == api.MApp || m.Kind == api.MBeat || m.Kind == api.MSnap {
			l = &now[e.Number]
		}
		at := slices.IndexFunc(*l, func(b []byte) bool { return bytes.Equal(b, e.Data) })
		if at < 0 {
			c.t.Fatalf("%s: the core didn't tell that, or not in that place\n%s", shownEvent(e), s.tale())
		}
		*l = (*l)[at+1:]
	}
	if len(s.stored) > len(entries) || !slices.Equal(s.stored, entries[:len(s.stored)]) {
		c.t.Fatalf("applied were %v; the core told %v\n%s", s.stored, entries, s.tale())
	}
	for i, number := range s.synced {
		if i > 0 && number <= s.synced[i-1] || !slices.Contains(numbers, number) {
			c.t.Fatalf("synced were %v; the core told %v\n%s", s.synced, numbers, s.tale())
		}
	}
	c.counts["lives"]++
}

func TestP12_3_Model(t *testing.T) {
	t.Parallel()
	counts := playClusters(t, 1000, 80, 15000)
	enough(t, counts, 10000, "pick 1, pick 2, pick 3, pick 4, pick 5, pick 6, pick 7, pick 8, pick 9")
	enough(t, counts, 1000, "send, sync, apply, reply, snap, reply done, reply none, reply lead, reply busy, refused busy")
	enough(t, counts, 100, "reply other, reply old, send Snap, down, spoilt")
	enough(t, counts, 20, "reply lost, dropped")
}

func TestP12_9_Pure(t *testing.T) {
	t.Parallel()
	counts := playClusters(t, 2000, 80, 15000)
	enough(t, counts, 1000, "lives, send, sync, apply")
}

// Nothing is dropped where the lanes have room: what is sent is all that the core told.
func TestP12_9_AllIsSent(t *testing.T) {
	k := made(t, opts(1, 3))
	k.steps(vote(2, 1, 0, 0), vote(3, 1, 0, 0), vote(2, 1, 0, 0), vote(3, 2, 0, 0))
	is(t, k.rest(), "sync 1, send 1>2 VoteAns t1, send 1>3 VoteAns t1 no, send 1>2 VoteAns t1, send 1>3 VoteAns t2")
}

func TestP12_10_After(t *testing.T) {
	t.Parallel()
	counts := playClusters(t, 3000, 80, 15000)
	enough(t, counts, 2000, "after, leans")
	enough(t, counts, 20, "after while more is to be written")
}

// A message waits for its own work, though another one is synced.
func TestP12_10_ItsOwnWork(t *testing.T) {
	k := made(t, opts(1, 3))
	k.steps(vote(2, 1, 0, 0))
	k.picks("", node.PWork)
	k.steps(vote(3, 2, 0, 0))
	k.picks("", node.PWork, node.PWrite)
	k.picks("sync 1, send 1>2 VoteAns t1", node.PSync, node.PSend)
	k.idle(node.PSend, node.PSync)
	k.picks("", node.PWrite)
	k.idle(node.PSend)
	k.picks("sync 2, send 1>3 VoteAns t2", node.PSync, node.PSend)
}

// rounds lets a node that was stopped do what is left, in turn, and tells how many rounds it took.
func (k kit) rounds(most int) int {
	for n := range most {
		if k.n.Done() {
			return n
		}
		for _, kind := range []int{node.PNotice, node.PWrite, node.PSync, node.PApply, node.PSend} {
			k.n.Pick(kind)
		}
	}
	return most
}

func TestP12_11_Ended(t *testing.T) {
	t.Parallel()
	counts := playClusters(t, 4000, 80, 15000)
	enough(t, counts, 100, "stopped, done")
}

// All queues are full.
func TestP12_11_Full(t *testing.T) {
	for _, room := range []int{1, 2, 7, api.MaxQueue} {
		o := opts(1, 3)
		o.Jobs, o.Applies, o.Out, o.Inbox, o.Ticks, o.Calls = room, room, room, room, room, room
		o.Core.Window, o.Core.Pending = api.MaxQueue, api.MaxLog
		k := serving(t, o)
		for i := range 3*room + 3 {
			k.n.Call(puts(1+2*i, "a", "x"))
			k.n.Call(gets(2+2*i, "a"))
			k.n.Pick(node.PCall)
			k.n.Pick(node.PCall)
			for id := 2; id <= 3; id++ {
				k.n.Deliver(framed(beatAns(id, 1, i)))
				k.n.Pick(node.PInbox)
			}
			k.n.Pick(node.PWork)
			if i < room {
				k.n.Pick(node.PWrite)
			}
			k.n.Tick(0)
			k.n.Deliver(nil)
		}
		v := k.n.View()
		is(t, v.Jobs == room || v.Applies == room, true)
		is(t, v.Out, 2*room)
		k.n.Stop()
		most := o.Jobs + o.Applies + 3*o.Out + 8
		if n := k.rounds(most); !k.n.Done() {
			t.Errorf("room %d: %d rounds are not enough", room, n)
		}
	}
	// With nothing to do.
	k := made(t, opts(1, 1))
	k.n.Stop()
	is(t, say(k.rounds(9), k.n.Done()), "1 true")
}

func TestP12_12_Recovered(t *testing.T) {
	t.Parallel()
	counts := playClusters(t, 5000, 80, 15000)
	enough(t, counts, 500, "crash, crash with a snapshot")
	enough(t, counts, 30, "crash with more, down")
}

// A write fails at each place, and the crash keeps this or that: what was synced is there.
func TestP12_12_EachWrite(t *testing.T) {
	o := opts(1, 3)
	o.Every, o.Segment = 3, 64
	type least struct{ term, vote, last int }
	script := []struct {
		l    []api.Message
		then least
	}{
		{[]api.Message{vote(2, 1, 0, 0)}, least{1, 2, 0}},
		{[]api.Message{app(2, 1, 0, 0, 2, of(1, 1, 1, 1)...)}, least{1, 2, 3}},
		{[]api.Message{app(2, 1, 3, 1, 4, of(4, 1)...), beat(2, 1, 4, 0)}, least{1, 2, 4}},
		{[]api.Message{app(3, 2, 4, 1, 5, of(5, 2, 2)...)}, least{2, 0, 6}},
		{[]api.Message{snapMsg(3, 3, storeWith(20, 3, "a", "x"))}, least{3, 0, 20}},
		{[]api.Message{app(3, 3, 20, 3, 24, of(21, 3, 3, 3, 3)...)}, least{3, 0, 24}},
		{[]api.Message{vote(2, 4, 30, 3)}, least{4, 2, 24}},
	}
	// play is what was synced when the script was at its end, or the node went down.
	play := func(k kit) (was least) {
		for _, x := range script {
			for _, m := range x.l {
				k.n.Deliver(framed(m))
			}
			k.rest()
			v := k.n.View()
			if !v.Up {
				break
			}
			was = x.then
			is(t, least{v.Core.Term, v.Core.Vote, v.Core.Last}, was)
		}
		return was
	}
	for n := 1; ; n++ {
		for _, keep := range []int{0, 1, 7, 15, 24, 40, 9999} {
			k := made(t, o)
			k.d.Arm(n)
			was := play(k)
			if k.n.View().Up {
				is(t, n > 30, true)
				return
			}
			k.d.Crash(keep)
			v := opened(t, o, k.d).n.View()
			if v.Core.Term < was.term || v.Core.Term == was.term && was.vote != 0 && v.Core.Vote != was.vote || v.Core.Last < was.last {
				t.Errorf("write %d, keep %d: %s; synced was %v", n, keep, shownView(v), was)
			}
		}
	}
}

// A store is found again with what its snapshot has; the entries behind it are applied again.
func TestP12_12_Store(t *testing.T) {
	o := opts(1, 1)
	o.Every = 3
	k := led(t, o)
	for i := range 7 {
		k.calls(puts(2+i, "a", say(i)))
		k.rest()
	}
	is(t, say(k.n.View().Stored, k.n.View().Snap), "8 6")
	k.d.Crash(0)
	m := opened(t, o, k.d)
	is(t, say(m.n.View().Stored, shownReply(m.n.Get("a")), m.n.Sessions()), "6 done 4 [{1 6 {1 }}]")
	m.log("6 1 7/1x 8/1x")
	is(t, m.rest(), "apply 7, apply 8")
	is(t, say(m.n.View().Stored, shownReply(m.n.Get("a"))), "8 done 6")
	// A call that was done is known again.
	m.ticks(10)
	m.rest()
	m.calls(node.Call{ID: 50, Command: put(1, 8, "a", "again")}, node.Call{ID: 51, Command: put(1, 7, "a", "again")})
	m.picks("", node.PCall, node.PCall)
	is(t, m.sweep(node.PWork, node.PWrite, node.PSync, node.PNotice, node.PApply), "sync 3, sync 4, apply 10, reply 50 done, apply 11, reply 51 old")
}

func TestP12_13_Replies(t *testing.T) {
	t.Parallel()
	counts := playClusters(t, 6000, 80, 15000)
	enough(t, counts, 500, "reply done, reply none, reply lead, reply busy, reply old")
	enough(t, counts, 100, "reply other")
	enough(t, counts, 20, "reply lost, dropped")
}

// A call has one reply, whatever becomes of its entry, and of its node.
func TestP12_13_Once(t *testing.T) {
	k := usurped(t)
	k.sweep(node.PWork, node.PWrite, node.PSync, node.PSend, node.PNotice)
	k.steps(appYes(2, 3, 3))
	is(t, k.sweep(node.PWork, node.PApply), "apply 2, reply 7 lost, apply 3, reply 8 lost")
	k.steps(snapMsg(3, 9, storeWith(30, 8, "a", "x")))
	is(t, k.sweep(node.PWork, node.PApply), "reply 9 lost")
	is(t, k.n.View().Pending, 0)
	// A node that goes down tells no reply.
	k = opened(t, opts(1, 1), disk.New())
	k.ticks(10)
	k.calls(puts(7, "a", "x"))
	k.picks("", node.PCall, node.PWork)
	k.d.Arm(1)
	k.picks("down", node.PWrite)
	is(t, k.rest(), "")
}
