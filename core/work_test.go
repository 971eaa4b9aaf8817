package core_test

import (
	"testing"

	"synod/api"
)

func TestP10_6_None(t *testing.T) {
	k := blank(t, 1, 3)
	k.work("")
	k.tick(9)
	k.work("")
	k.tick(1)
	k.done()
	k.work("")
	// What there is none of has no number, and takes none.
	k.step(voteYes(2, 1, 1))
	k.work("#2; write 1/1; now App 1>2 t1 [1/1], App 1>3 t1 [1/1]")
}

// A state is told where term, vote or committed is another one, and all of it then.
func TestP10_6_State(t *testing.T) {
	k := some(t)
	k.step(beatAns(3, 2, 7, 0))
	k.work("#1; state 7 0 4")
	k.step(vote(4, 2, 7, 6, 5))
	k.work("#2; state 7 4 4; after VoteAns 2>4 t7")
	k.step(beat(4, 2, 7, 5, 0))
	k.work("#3; state 7 4 5; after BeatAns 2>4 t7; apply 5/5")
	k.step(beat(4, 2, 7, 5, 0))
	k.work("#4; after BeatAns 2>4 t7")
	k.work("")
}

// A work has a number just if it has a State, a Snap, Entries or After.
func TestP10_6_Number(t *testing.T) {
	k := serving(t, opts(1, 3))
	is(t, k.c.Read(1), api.OK)
	k.work("now Beat 1>2 t1 c1 x1, Beat 1>3 t1 c1 x1")
	k.step(beatAns(2, 1, 1, 1))
	k.work("reads 1@1")
	k.propose("a", 2, 1)
	k.work("#3; write 2/1=a; now App 1>2 t1 i1 l1 c1 [2/1=a], App 1>3 t1 i1 l1 c1 [2/1=a]")
	k.step(appYes(2, 1, 1, 2), appYes(3, 1, 1, 2))
	k.work("#4; state 1 1 2; now App 1>2 t1 i2 l1 c2, App 1>3 t1 i2 l1 c2")
	k.synced(4)
	k.work("apply 2/1=a")
	is(t, k.c.Read(2), api.OK)
	k.work("now Beat 1>2 t1 c2 x2, Beat 1>3 t1 c2 x2")
	k.step(beat(2, 1, 2, 0, 0))
	k.work("#5; state 2 0 2; after BeatAns 1>2 t2; dropped [2]")
	k.step(beat(2, 1, 2, 0, 3))
	k.work("#6; after BeatAns 1>2 t2 x3")
	k.step(snapMsg(2, 1, 2, snapOf(9, 2, "s")))
	k.work("#7; state 2 0 9; snap 9/2=s; after AppAns 1>2 t2 i9")
}

// Dropped alone is a work: its number is 0 where the state was handed ahead.
func TestP10_6_DroppedAndReads(t *testing.T) {
	k := serving(t, opts(1, 3))
	for id := 1; id <= 4; id++ {
		is(t, k.c.Read(id), api.OK)
	}
	k.done()
	k.step(beatAns(2, 1, 1, 2), voteYes(3, 1, 5))
	k.work("#3; state 5 0 1; reads 1@1 2@1; dropped [3 4]")
	k.work("")
}

// Messages in the order in which they came up, each in its list.
func TestP10_6_OrderOfMessages(t *testing.T) {
	k := leading(t, opts(1, 3))
	k.step(vote(2, 1, 1, 0, 0), appYes(3, 1, 1, 1), beatAns(2, 1, 1, 0), vote(3, 1, 1, 0, 0))
	k.tick(1)
	k.propose("a", 2, 1)
	k.work("#2; state 1 1 1; write 2/1=a; now App 1>3 t1 i1 l1 c1, App 1>2 t1 c1 [1/1], Beat 1>2 t1, Beat 1>3 t1 c1, App 1>3 t1 i1 l1 c1 [2/1=a]; after VoteAns 1>2 t1 no, VoteAns 1>3 t1 no; apply 1/1")
}

// At most Batch at once; the rest comes with the next works.
func TestP10_6_Apply(t *testing.T) {
	o := opts(2, 3)
	o.Batch = 2
	k := makeKit(t, o, api.State{Term: 3, Commit: 5}, api.Snap{}, of(1, 1, 1, 2, 2, 3, 3)...)
	k.work("apply 1/1 2/1")
	k.work("apply 3/2 4/2")
	k.work("apply 5/3")
	k.work("")
	// What is committed and not durable is not applied yet.
	k.step(app(1, 2, 3, 6, 3, 9, of(7, 3, 3)...))
	k.work("#1; state 3 0 8; write 7/3 8/3; after AppAns 2>1 t3 i8; apply 6/3")
	k.work("")
	k.synced(1)
	k.work("apply 7/3 8/3")
}

func TestP10_6_Synced(t *testing.T) {
	k := blank(t, 1, 1)
	for _, n := range append(far(), 0, 1, 2) {
		is(t, k.c.Synced(n), api.ErrRange)
	}
	k.tick(10)
	// A work that was not handed yet is none.
	is(t, k.c.Synced(1), api.ErrRange)
	k.work("#1; state 1 1 0; write 1/1")
	for _, n := range append(far(), 0, 2, 3) {
		is(t, k.c.Synced(n), api.ErrRange)
	}
	is(t, k.c.Status().Commit, 0)
	k.synced(1)
	is(t, k.c.Status().Commit, 1)
	is(t, k.c.Synced(1), api.ErrRange)
	k.done()
	// Several at once.
	for i := range 4 {
		k.propose("a", 2+i, 1)
		_, ok := k.c.Ready()
		is(t, ok, true)
	}
	is(t, say(k.c.Synced(7), k.c.Synced(2)), say(api.ErrRange, api.ErrRange))
	k.synced(4)
	is(t, k.c.Marks().Stable, 3)
	is(t, say(k.c.Synced(4), k.c.Synced(3)), say(api.ErrRange, api.ErrRange))
	k.synced(6)
	is(t, say(k.c.Marks().Stable, k.c.Status().Commit), "5 5")
}

// Of each work it is the last index and term that the log had when it was handed.
func TestP10_6_SyncedOfWhatWasHanded(t *testing.T) {
	k := blank(t, 2, 3)
	k.step(app(1, 2, 1, 0, 0, 0, of(1, 1, 1, 1)...))
	k.work("#1; state 1 0 0; write 1/1 2/1 3/1; after AppAns 2>1 t1 i3")
	k.step(app(1, 2, 1, 3, 1, 0, of(4, 1, 1)...))
	k.synced(1)
	is(t, k.c.Marks(), "{3 3 0 0 0}")
	k.work("#2; write 4/1 5/1; after AppAns 2>1 t1 i5")
	k.work("")
	// Another leader's entries are there in the meantime.
	k.step(app(3, 2, 2, 3, 1, 0, of(4, 2, 2)...))
	k.synced(2)
	is(t, k.c.Marks(), "{3 3 0 0 0}")
	k.work("#3; state 2 0 0; write 4/2 5/2; after AppAns 2>3 t2 i5")
	k.step(app(3, 2, 2, 5, 2, 0, of(6, 2)...))
	k.work("#4; write 6/2; after AppAns 2>3 t2 i6")
	k.synced(4)
	is(t, k.c.Marks(), "{6 6 0 0 0}")
	// Work by work: where a later one's last entry is gone, the earlier one's may be there still.
	k.step(app(3, 2, 2, 6, 2, 0, of(7, 2)...))
	k.work("#5; write 7/2; after AppAns 2>3 t2 i7")
	k.step(app(3, 2, 2, 7, 2, 0, of(8, 2)...))
	k.work("#6; write 8/2; after AppAns 2>3 t2 i8")
	k.step(app(1, 2, 3, 7, 2, 0, of(8, 3)...))
	is(t, k.c.Marks(), "{7 6 0 0 0}")
	k.synced(6)
	is(t, k.c.Marks(), "{7 7 0 0 0}")
}

// A work with no entries tells where the log ends, too.
func TestP10_6_SyncedWithoutEntries(t *testing.T) {
	k := blank(t, 2, 3)
	k.step(app(1, 2, 1, 0, 0, 0, of(1, 1, 1)...))
	k.work("#1; state 1 0 0; write 1/1 2/1; after AppAns 2>1 t1 i2")
	k.step(beat(1, 2, 1, 0, 0))
	k.work("#2; after BeatAns 2>1 t1")
	k.step(snapMsg(1, 2, 1, snapOf(9, 1, "s")))
	k.synced(2)
	is(t, k.c.Marks(), "{9 9 9 9 9}")
}

func TestP10_6_Applied(t *testing.T) {
	k := some(t)
	k.step(beat(1, 2, 6, 6, 0))
	is(t, k.c.Applied(5), false)
	k.work("#1; state 6 0 6; after BeatAns 2>1 t6; apply 5/5 6/5")
	for _, n := range append(far(), 0, 3, 4, 7) {
		is(t, k.c.Applied(n), false)
	}
	is(t, k.c.Status().Applied, 4)
	is(t, say(k.c.Applied(5), k.c.Applied(5), k.c.Status().Applied, k.c.Applied(6), k.c.Applied(6)), "true false 5 true false")
	is(t, k.c.Status().Applied, 6)
}

// compactable is node 1 alone, its log 3/2, 4/3, 5/5 and 6/9; 5 is applied.
func compactable(t *testing.T) kit {
	t.Helper()
	k := makeKit(t, opts(1, 1), api.State{Term: 8}, snapOf(3, 2, "s"), of(4, 3, 5)...)
	k.tick(10)
	k.work("#1; state 9 1 3; write 6/9")
	k.synced(1)
	k.work("#2; state 9 1 6; apply 4/3 5/5 6/9")
	is(t, k.c.Applied(5), true)
	return k
}

func TestP10_6_Compact(t *testing.T) {
	for _, x := range []struct {
		index, term, keep int
		log               string
	}{
		{5, 5, 0, "5 5 ; 6/9"},
		{5, 5, 1, "4 3 ; 5/5 6/9"},
		{5, 5, 2, "3 2 ; 4/3 5/5 6/9"},
		{5, 5, 3, "3 2 ; 4/3 5/5 6/9"},
		{5, 5, 5, "3 2 ; 4/3 5/5 6/9"},
		{5, 5, api.MaxLog, "3 2 ; 4/3 5/5 6/9"},
		{4, 3, 0, "4 3 ; 5/5 6/9"},
	} {
		k := compactable(t)
		is(t, k.c.Compact(snapOf(x.index, x.term, "new"), x.keep), api.OK)
		k.log(x.log)
		k.work("")
		// It is the newest: it is not taken twice, nor is an older one, however much was kept.
		is(t, k.c.Compact(snapOf(x.index, x.term, "new"), 0), api.ErrRange)
		is(t, k.c.Compact(snapOf(4, 3, "new"), 0), api.ErrRange)
		k.log(x.log)
	}
	k := compactable(t)
	is(t, k.c.Compact(snapOf(4, 3, ""), api.MaxLog), api.OK)
	is(t, k.c.Compact(api.Snap{Index: 5, Term: 5, Data: make([]byte, api.MaxSnap)}, 0), api.OK)
	k.log("5 5 ; 6/9")
}

func TestP10_6_WrongCompact(t *testing.T) {
	k := compactable(t)
	long := make([]byte, api.MaxSnap+1)
	no := func(s api.Snap, keep int, want api.Errno) {
		t.Helper()
		k.same(func() { is(t, k.c.Compact(s, keep), want) })
	}
	for _, n := range append(far(), 0) {
		no(snapOf(n, 5, "x"), 0, api.ErrRange)
		no(snapOf(5, n, "x"), 0, api.ErrRange)
	}
	no(api.Snap{}, 0, api.ErrRange)
	no(api.Snap{Index: 5, Term: 5, Data: long}, 0, api.ErrLong)
	for _, index := range []int{1, 2, 3, 6, 7, top} {
		for _, term := range []int{1, 2, 5, 9} {
			no(snapOf(index, term, "x"), 0, api.ErrRange)
		}
	}
	for _, keep := range append(far(), api.MaxLog+1) {
		no(snapOf(5, 5, "x"), keep, api.ErrRange)
	}
	for _, term := range []int{1, 3, 4, 6, 9, top} {
		no(snapOf(5, term, "x"), 0, api.ErrForm)
	}
	// The order: codec's, ErrRange, ErrForm.
	no(api.Snap{Index: 7, Term: 4, Data: long}, -1, api.ErrLong)
	no(snapOf(0, 5, "x"), -1, api.ErrRange)
	no(snapOf(5, 4, "x"), -1, api.ErrRange)
	no(snapOf(5, 4, "x"), api.MaxLog+1, api.ErrRange)
	is(t, k.c.Compact(snapOf(5, 5, "x"), 0), api.OK)
}

// A snapshot that the store took is not written by a work; what was kept goes as entries, what is gone as that snapshot.
func TestP10_6_Compacted(t *testing.T) {
	k := ledOf(t, opts(1, 3), api.Snap{}, of(1, 1, 2)...)
	k.step(appYes(2, 1, 9, 3))
	k.done()
	is(t, k.c.Compact(snapOf(2, 2, "two"), 0), api.OK)
	k.work("")
	is(t, k.c.Compact(snapOf(3, 9, "three"), 1), api.OK)
	k.work("")
	k.log("2 2 ; 3/9")
	k.step(appNo(2, 1, 9, 3, 0), appNo(3, 1, 9, 2, 0))
	k.work("now Snap 1>3 t9 {3/9=three}")
	k.step(appYes(3, 1, 9, 2), beatAns(3, 1, 9, 0))
	k.work("now App 1>3 t9 i2 l2 c3 [3/9]")
}
