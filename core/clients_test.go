package core_test

import (
	"math"
	"strings"
	"testing"

	"synod/api"
)

// notTaken holds that Propose answers this error, nothing beside it, and changes nothing.
func (k kit) notTaken(data []byte, want api.Errno) {
	k.t.Helper()
	k.same(func() {
		k.t.Helper()
		if i, u, e := k.c.Propose(data); i != 0 || u != 0 || e != want {
			k.t.Errorf("Propose of %d bytes: %d, %d, %d; not %d", len(data), i, u, e, want)
		}
	})
}

// notRead holds that Read answers this error, and changes nothing.
func (k kit) notRead(want api.Errno) {
	k.t.Helper()
	k.same(func() { is(k.t, k.c.Read(1), want) })
}

func TestP10_4_Propose(t *testing.T) {
	k := serving(t, batched(3, 8, 2))
	k.propose("a", 2, 1)
	k.propose("", 3, 1)
	k.propose("c", 4, 1)
	k.log("0 0 ; 1/1 2/1=a 3/1= 4/1=c")
	k.work("#3; write 2/1=a 3/1= 4/1=c; now App 1>2 t1 i1 l1 c1 [2/1=a], App 1>3 t1 i1 l1 c1 [2/1=a], App 1>2 t1 i2 l1 c1 [3/1=], App 1>3 t1 i2 l1 c1 [3/1=]")
	most := strings.Repeat("x", api.MaxData)
	k.propose(most, 5, 1)
	_, _, l := k.c.Log()
	is(t, string(l[4].Data), most)
	// The term is the core's.
	k = ledOf(t, opts(1, 2), snapOf(3, 2, "s"))
	k.propose("a", 5, 9)
}

// What is left goes: all of it, message by message, as long as it may.
func TestP10_4_SendsWhatIsLeft(t *testing.T) {
	k := ledOf(t, batched(3, 2, 3), api.Snap{}, many(7, 1, 1)...)
	k.step(appNo(2, 1, 9, 7, 0))
	k.step(appYes(2, 1, 9, 0))
	k.work("now App 1>2 t9 [1/1 2/1], App 1>2 t9 [1/1 2/1], App 1>2 t9 i2 l1 [3/1 4/1], App 1>2 t9 i4 l1 [5/1 6/1]")
	k.step(beatAns(2, 1, 9, 0))
	k.work("now App 1>2 t9 i6 l1 [7/1 8/9]")
	k.propose("a", 9, 9)
	k.propose("b", 10, 9)
	k.work("#2; write 9/9=a 10/9=b")
	k.step(appNo(3, 1, 9, 7, 3))
	k.work("now App 1>3 t9 i3 l1 [4/1 5/1]")
	// A window that has room for two takes two.
	k.step(appYes(2, 1, 9, 5))
	k.work("now App 1>2 t9 i8 l9 [9/9=a 10/9=b]")
	k.propose("c", 11, 9)
	k.work("#3; write 11/9=c")
	k.step(appYes(2, 1, 9, 6))
	k.work("now App 1>2 t9 i10 l9 [11/9=c]")
	// What was left behind goes with what is proposed.
	k = serving(t, batched(2, 1, 8))
	k.propose("a", 2, 1)
	k.propose("b", 3, 1)
	k.propose("c", 4, 1)
	k.done()
	k.step(appNo(2, 1, 1, 2, 0), appYes(2, 1, 1, 2))
	k.done()
	k.propose("d", 5, 1)
	k.work("#5; write 5/1=d; now App 1>2 t1 i3 l1 c2 [4/1=c], App 1>2 t1 i4 l1 c2 [5/1=d]")
}

func TestP10_4_NotLeading(t *testing.T) {
	long := make([]byte, api.MaxData+1)
	k := some(t)
	k.notTaken(nil, api.ErrLead)
	k.notTaken(long, api.ErrLead)
	k.tick(8)
	is(t, k.c.Status().Role, api.Candidate)
	k.notTaken([]byte("a"), api.ErrLead)
	k.notTaken(long, api.ErrLead)
	full := makeKit(t, opts(1, 1), api.State{Term: 5}, snapOf(top-api.MaxLog, 5, ""), many(api.MaxLog, 5, top-api.MaxLog+1)...)
	full.notTaken(long, api.ErrLead)
}

func TestP10_4_TooLong(t *testing.T) {
	k := serving(t, opts(1, 3))
	k.notTaken(make([]byte, api.MaxData+1), api.ErrLong)
	k.notTaken(make([]byte, 99999), api.ErrLong)
	k.work("")
	// It goes ahead of the others.
	o := opts(1, 1)
	o.Pending = 1
	k = makeKit(t, o, api.State{Term: 5}, snapOf(top-1, 5, ""))
	k.tick(10)
	k.notTaken(make([]byte, api.MaxData+1), api.ErrLong)
	k.notTaken(nil, api.ErrLimit)
}

func TestP10_4_LastIndex(t *testing.T) {
	k := makeKit(t, opts(1, 1), api.State{Term: 5}, snapOf(top-2, 5, ""))
	k.tick(10)
	k.propose("a", top, 6)
	k.notTaken(nil, api.ErrLimit)
	k.done()
	k.notTaken(nil, api.ErrLimit)
	// It goes ahead of ErrFull.
	k = makeKit(t, opts(1, 1), api.State{Term: 5}, snapOf(top-api.MaxLog, 5, ""), many(api.MaxLog-1, 5, top-api.MaxLog+1)...)
	k.tick(10)
	is(t, k.c.Status().Last, top)
	k.notTaken(nil, api.ErrLimit)
}

func TestP10_4_Pending(t *testing.T) {
	for _, pending := range []int{1, 2, 5} {
		o := opts(1, 3)
		o.Pending = pending
		k := leading(t, o)
		// The term's first entry counts.
		for i := 1; i < pending; i++ {
			k.propose("a", 1+i, 1)
		}
		k.notTaken(nil, api.ErrFull)
		k.done()
		k.notTaken(nil, api.ErrFull)
		k.step(appYes(2, 1, 1, 1))
		k.propose("b", 1+pending, 1)
		k.notTaken(nil, api.ErrFull)
	}
	// What a new leader finds counts, and may be more.
	o := opts(1, 2)
	o.Pending = 3
	k := ledOf(t, o, api.Snap{}, many(9, 1, 1)...)
	k.notTaken(nil, api.ErrFull)
	k.step(appYes(2, 1, 9, 10))
	k.propose("a", 11, 9)
}

func TestP10_4_FullLog(t *testing.T) {
	o := opts(1, 1)
	o.Pending = api.MaxLog
	k := makeKit(t, o, api.State{Term: 5}, api.Snap{}, many(api.MaxLog-2, 5, 1)...)
	k.tick(10)
	k.propose("a", api.MaxLog, 6)
	k.notTaken(nil, api.ErrFull)
	k.done()
	is(t, k.c.Status().Applied, api.MaxLog)
	k.notTaken(nil, api.ErrFull)
	is(t, k.c.Compact(snapOf(7, 5, "s"), 0), api.OK)
	for i := range 7 {
		k.propose("b", api.MaxLog+1+i, 6)
	}
	k.notTaken(nil, api.ErrFull)
}

func TestP10_5_Read(t *testing.T) {
	k := serving(t, opts(1, 3))
	for i, id := range []int{5, -1, math.MinInt, 5} {
		k.same(func() { is(t, k.c.Read(id), api.OK) })
		w, _ := k.c.Ready()
		is(t, shownMessages(w.Now), shownMessages([]api.Message{beat(1, 2, 1, 1, i+1), beat(1, 3, 1, 1, i+1)}))
		is(t, say(w.Number, w.Reads), "0 []")
	}
	k.step(beatAns(3, 1, 1, 4))
	w, _ := k.c.Ready()
	is(t, w.Reads, "[{5 1} {-1 1} {-9223372036854775808 1} {5 1}]")
}

func TestP10_5_NotLeading(t *testing.T) {
	k := some(t)
	k.notRead(api.ErrLead)
	k.tick(8)
	k.notRead(api.ErrLead)
	// Committed of its own term, but a follower.
	k = makeKit(t, opts(1, 3), api.State{Term: 5, Commit: 1}, api.Snap{}, of(1, 5)...)
	k.notRead(api.ErrLead)
}

func TestP10_5_Early(t *testing.T) {
	k := leading(t, opts(1, 3))
	k.notRead(api.ErrEarly)
	k.step(appYes(3, 1, 1, 1))
	is(t, k.c.Read(1), api.OK)
	// All of the log is committed, but none of this term.
	k = makeKit(t, opts(1, 3), api.State{Term: 5, Commit: 2}, api.Snap{}, of(1, 5, 5)...)
	k.tick(10)
	k.step(voteYes(2, 1, 6))
	k.notRead(api.ErrEarly)
	// The same of a snapshot alone.
	k = ledOf(t, opts(1, 3), snapOf(3, 2, "s"))
	k.notRead(api.ErrEarly)
	k.step(appYes(2, 1, 9, 4))
	is(t, k.c.Read(1), api.OK)
	// What is committed may be a base of this term.
	k.done()
	is(t, k.c.Compact(snapOf(4, 9, "t"), 0), api.OK)
	k.log("4 9 ;")
	is(t, k.c.Read(1), api.OK)
}

func TestP10_5_Full(t *testing.T) {
	for _, reads := range []int{1, 2, api.MaxQueue} {
		o := opts(1, 3)
		o.Reads = reads
		k := serving(t, o)
		for id := range reads {
			is(t, k.c.Read(id), api.OK)
		}
		k.done()
		k.notRead(api.ErrFull)
		k.work("")
		// A number is none that was refused.
		k.step(beatAns(2, 1, 1, 1))
		k.done()
		is(t, k.c.Read(99), api.OK)
		w, _ := k.c.Ready()
		is(t, w.Now[0].Ctx, reads+1)
		k.notRead(api.ErrFull)
	}
	// ErrEarly goes ahead: reads that wait were asked in this reign, so that both never hold at once.
	k := leading(t, opts(1, 3))
	k.notRead(api.ErrEarly)
}

// Of one node it is ready at once, whatever number there is.
func TestP10_5_Alone(t *testing.T) {
	o := opts(1, 1)
	o.Reads = 1
	k := leading(t, o)
	k.propose("a", 2, 1)
	for id := range 9 {
		is(t, k.c.Read(id), api.OK)
	}
	k.work("#3; write 2/1=a; reads 0@1 1@1 2@1 3@1 4@1 5@1 6@1 7@1 8@1")
	k.synced(3)
	is(t, k.c.Read(-7), api.OK)
	k.work("#4; state 1 1 2; apply 2/1=a; reads -7@2")
	k.work("")
}

// Numbers go on from reign to reign.
func TestP10_5_Numbers(t *testing.T) {
	k := serving(t, opts(1, 3))
	is(t, say(k.c.Read(1), k.c.Read(2)), "0 0")
	k.step(vote(2, 1, 2, 0, 0))
	k.tick(10)
	k.step(voteYes(2, 1, 3), appYes(2, 1, 3, 2))
	k.done()
	is(t, k.c.Status().Commit, 2)
	// None of the earlier ones waits.
	k.tick(1)
	k.work("now Beat 1>2 t3 c2, Beat 1>3 t3")
	is(t, k.c.Read(3), api.OK)
	k.work("now Beat 1>2 t3 c2 x3, Beat 1>3 t3 x3")
	k.step(beatAns(2, 1, 3, 2))
	k.work("")
	k.step(beatAns(2, 1, 3, 3))
	k.work("reads 3@2")
	// A core that is made anew counts from 1 on.
	k = serving(t, opts(1, 3))
	is(t, k.c.Read(1), api.OK)
	k.work("now Beat 1>2 t1 c1 x1, Beat 1>3 t1 c1 x1")
}
