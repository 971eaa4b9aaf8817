package core_test

import (
	"math"
	"testing"

	"synod/api"
	"synod/core"
)

// refused holds that New answers this error, and no core.
func refused(t *testing.T, o core.Opts, s api.State, snap api.Snap, entries []api.Entry, want api.Errno) {
	t.Helper()
	if c, e := core.New(o, s, snap, entries, 0); c != nil || e != want {
		t.Errorf("New(%v, %v, %d/%d, %d entries): %v, %d; not %d", o, s, snap.Index, snap.Term, len(entries), c != nil, e, want)
	}
}

// fields are an option's numbers, by name.
func fields(o *core.Opts) map[string]*int {
	return map[string]*int{"ID": &o.ID, "Nodes": &o.Nodes, "Election": &o.Election, "Beat": &o.Beat, "Batch": &o.Batch,
		"Window": &o.Window, "Reads": &o.Reads, "Pending": &o.Pending}
}

func TestP10_1_Options(t *testing.T) {
	// Beat is 3 here, if nothing else is said: an Election of 3 or less is none.
	for _, x := range []struct {
		name        string
		least, most int
	}{
		{"ID", 1, 3}, {"Nodes", 2, 7}, {"Election", 4, 1000}, {"Beat", 1, 9}, {"Batch", 1, 64}, {"Window", 1, 64}, {"Reads", 1, 64}, {"Pending", 1, 10000},
	} {
		ints := append(far(), 0, 1, 2, 3, 4, 5, 7, 8, 9, 10, 11, 63, 64, 65, 999, 1000, 1001, 9999, 10000, 10001)
		for _, n := range ints {
			o := opts(2, 3)
			o.Beat = 3
			*fields(&o)[x.name] = n
			c, e := core.New(o, api.State{}, api.Snap{}, nil, 0)
			may := x.least <= n && n <= x.most
			if (c != nil) != may || (e == api.OK) != may || !may && e != api.ErrOpts {
				t.Errorf("%s %d: %v, %d", x.name, n, c != nil, e)
			}
		}
	}
	// The least ones, and the greatest.
	makeKit(t, core.Opts{ID: 1, Nodes: 1, Election: 2, Beat: 1, Batch: 1, Window: 1, Reads: 1, Pending: 1}, api.State{}, api.Snap{})
	makeKit(t, core.Opts{ID: 7, Nodes: 7, Election: 1000, Beat: 999, Batch: 64, Window: 64, Reads: 64, Pending: 10000}, api.State{}, api.Snap{})
	refused(t, core.Opts{}, api.State{}, api.Snap{}, nil, api.ErrOpts)
	o := opts(1, 3)
	o.Election, o.Beat = 1, 1
	refused(t, o, api.State{}, api.Snap{}, nil, api.ErrOpts)
	o.Election, o.Beat = math.MinInt, math.MaxInt
	refused(t, o, api.State{}, api.Snap{}, nil, api.ErrOpts)
}

func TestP10_1_WrongState(t *testing.T) {
	o := opts(1, 3)
	for _, n := range far() {
		refused(t, o, api.State{Term: n}, api.Snap{}, nil, api.ErrRange)
		refused(t, o, api.State{Term: 1, Commit: n}, api.Snap{}, nil, api.ErrRange)
		refused(t, o, api.State{Term: 1, Vote: n}, api.Snap{}, nil, api.ErrRange)
	}
	refused(t, o, api.State{Term: 1, Vote: 8}, api.Snap{}, nil, api.ErrRange)
	refused(t, o, api.State{Vote: 1}, api.Snap{}, nil, api.ErrForm)
	refused(t, o, api.State{Term: 1, Vote: 4}, api.Snap{}, nil, api.ErrForm)
	refused(t, o, api.State{Term: 1, Vote: 7}, api.Snap{}, nil, api.ErrForm)
	makeKit(t, o, api.State{Term: 1, Vote: 3}, api.Snap{})
	makeKit(t, o, api.State{Term: top, Vote: 3, Commit: top}, api.Snap{})
}

func TestP10_1_WrongSnap(t *testing.T) {
	o, s := opts(1, 3), api.State{Term: 9}
	for _, n := range append(far(), 0) {
		refused(t, o, s, api.Snap{Index: n, Term: 1}, nil, api.ErrRange)
		refused(t, o, s, api.Snap{Index: 1, Term: n}, nil, api.ErrRange)
	}
	refused(t, o, s, api.Snap{Data: []byte("x")}, nil, api.ErrRange)
	refused(t, o, s, api.Snap{Index: 1, Term: 1, Data: make([]byte, api.MaxSnap+1)}, nil, api.ErrLong)
	makeKit(t, o, s, api.Snap{Index: 1, Term: 1, Data: make([]byte, api.MaxSnap)})
	// Its term is the log's last one, if there are no entries.
	refused(t, o, s, snapOf(3, 10, ""), nil, api.ErrForm)
	makeKit(t, o, s, snapOf(3, 9, ""))
}

func TestP10_1_WrongEntries(t *testing.T) {
	o, s, snap := opts(1, 3), api.State{Term: 9}, snapOf(3, 2, "s")
	for _, x := range []struct {
		entries []api.Entry
		want    api.Errno
	}{
		{of(5, 2), api.ErrForm},
		{of(3, 2), api.ErrForm},
		{of(4, 1), api.ErrForm},
		{of(4, 3, 2), api.ErrForm},
		{of(4, 10), api.ErrForm},
		{of(4, 3, 10), api.ErrForm},
		{of(4, 0), api.ErrRange},
		{[]api.Entry{{Term: 2, Index: 4, Kind: 2}}, api.ErrKind},
		{[]api.Entry{{Term: 2, Index: 4, Data: []byte("x")}}, api.ErrForm},
		{[]api.Entry{{Term: 2, Index: 4, Kind: api.ECommand, Data: make([]byte, api.MaxData+1)}}, api.ErrLong},
		{many(api.MaxLog+1, 2, 4), api.ErrFull},
		{append(many(api.MaxLog, 2, 4), empty(1, api.MaxLog+4)), api.ErrForm},
		{many(api.MaxLog, 2, 4), api.OK},
		{of(4, 9, 9), api.OK},
		{of(4, 2, 3), api.OK},
		{nil, api.OK},
	} {
		if x.want == api.OK {
			makeKit(t, o, s, snap, x.entries...)
		} else {
			refused(t, o, s, snap, x.entries, x.want)
		}
	}
	refused(t, o, s, api.Snap{}, of(2, 1), api.ErrForm)
	makeKit(t, o, s, api.Snap{}, of(1, 1)...)
}

// Each error stands ahead of all that come later in the chapter's order.
func TestP10_1_OrderOfErrors(t *testing.T) {
	o, s, snap, entries := opts(1, 3), api.State{Term: 9}, snapOf(3, 2, "s"), of(4, 3)
	late := api.State{Term: 1, Vote: 4}
	wrongOpts := o
	wrongOpts.Batch = 0
	refused(t, wrongOpts, api.State{Term: -1}, api.Snap{Index: 1}, of(9, 0), api.ErrOpts)
	refused(t, o, api.State{Vote: 1}, api.Snap{Index: 1}, of(9, 0), api.ErrForm)
	refused(t, o, api.State{Term: -1}, api.Snap{Index: 1, Term: 1, Data: make([]byte, api.MaxSnap+1)}, of(9, 0), api.ErrRange)
	refused(t, o, late, api.Snap{Index: 1, Term: 1, Data: make([]byte, api.MaxSnap+1)}, of(9, 0), api.ErrLong)
	refused(t, o, late, snap, of(9, 0), api.ErrRange)
	refused(t, o, late, snap, []api.Entry{{Term: 2, Index: 4, Kind: 9}}, api.ErrKind)
	refused(t, o, late, snap, many(api.MaxLog+1, 2, 4), api.ErrFull)
	refused(t, o, late, snap, entries, api.ErrForm)
	makeKit(t, o, s, snap, entries...)
}

func TestP10_1_Made(t *testing.T) {
	k := blank(t, 2, 3)
	k.status("follower t0 v0 of 0; 0/10; c0 a0 l0")
	k.log("0 0 ;")
	k.work("")
	// Its state counts as handed, with committed as the log has it.
	for _, commit := range []int{0, 2, 3} {
		k = makeKit(t, opts(2, 3), api.State{Term: 5, Vote: 3, Commit: commit}, snapOf(3, 2, "s"), of(4, 3, 5)...)
		k.status("follower t5 v3 of 0; 0/10; c3 a3 l5")
		k.log("3 2 ; 4/3 5/5")
		k.work("")
	}
	for _, commit := range []int{5, 6, top} {
		k = makeKit(t, opts(2, 3), api.State{Term: 5, Commit: commit}, snapOf(3, 2, "s"), of(4, 3, 5)...)
		k.status("follower t5 v0 of 0; 0/10; c5 a3 l5")
		// What is there counts as durable: it may be applied, and is not written again.
		k.work("apply 4/3 5/5")
		k.work("")
		is(t, k.c.Synced(1), api.ErrRange)
	}
	is(t, k.c.Marks(), "{5 5 5 5 3}")
}

func TestP10_1_Draws(t *testing.T) {
	for _, x := range []struct{ election, draw, want int }{
		{10, 0, 10}, {10, 1, 11}, {10, 79, 89}, {10, 80, 90}, {10, 81, 90}, {10, -1, 10}, {10, math.MaxInt, 90}, {10, math.MinInt, 10},
		{2, 16, 18}, {2, 17, 18}, {1000, 8000, 9000}, {1000, 8001, 9000}, {1000, top, 9000},
	} {
		o := opts(1, 3)
		o.Election = x.election
		c, _ := core.New(o, api.State{}, api.Snap{}, nil, x.draw)
		is(t, c.Status().Timeout, x.want)
		c, _ = core.New(o, api.State{}, api.Snap{}, nil, 3)
		c.Tick(x.draw)
		is(t, c.Status().Timeout, x.want)
	}
}

// The snapshot is the newest one: it goes to a node that needs what is gone.
func TestP10_1_SnapIsTheNewest(t *testing.T) {
	k := makeKit(t, opts(1, 2), api.State{Term: 5}, snapOf(3, 2, "data"), of(4, 3)...)
	k.tick(10)
	k.step(voteYes(2, 1, 6))
	k.done()
	k.step(appNo(2, 1, 6, 4, 0))
	k.work("now Snap 1>2 t6 {3/2=data}")
	is(t, k.c.Compact(snapOf(3, 2, "other"), 0), api.ErrRange)
}

func TestP10_11_Status(t *testing.T) {
	k := blank(t, 1, 3)
	k.tick(3)
	k.status("follower t0 v0 of 0; 3/10; c0 a0 l0")
	k.step(app(2, 1, 4, 0, 0, 2, of(1, 1, 1, 4)...))
	k.status("follower t4 v0 of 2; 0/10; c2 a0 l3")
	k.work("#1; state 4 0 2; write 1/1 2/1 3/4; after AppAns 1>2 t4 i3")
	k.synced(1)
	k.work("apply 1/1 2/1")
	k.status("follower t4 v0 of 2; 0/10; c2 a0 l3")
	is(t, k.c.Applied(1), true)
	k.status("follower t4 v0 of 2; 0/10; c2 a1 l3")
	k.tick(9)
	k.status("follower t4 v0 of 2; 9/10; c2 a1 l3")
	k.tick(1)
	k.status("candidate t5 v1 of 0; 0/10; c2 a1 l3")
	k.tick(2)
	k.step(voteYes(3, 1, 5))
	k.status("leader t5 v1 of 1; 2/10; c2 a1 l4")
}

func TestP10_11_Log(t *testing.T) {
	k := makeKit(t, opts(1, 1), api.State{Term: 5, Commit: 9}, snapOf(3, 2, "s"), command(3, 4, "a"), command(5, 5, "b"))
	k.log("3 2 ; 4/3=a 5/5=b")
	k.done()
	is(t, k.c.Compact(snapOf(4, 3, "t"), 0), api.OK)
	k.log("4 3 ; 5/5=b")
	is(t, k.c.Compact(snapOf(5, 5, "u"), 0), api.OK)
	k.log("5 5 ;")
	full := makeKit(t, opts(1, 1), api.State{Term: 5}, api.Snap{}, many(api.MaxLog, 2, 1)...)
	_, _, entries := full.c.Log()
	is(t, len(entries), api.MaxLog)
}

func TestP10_11_Match(t *testing.T) {
	k := blank(t, 2, 3)
	all := func() string {
		s := ""
		for _, id := range append(far(), 0, 1, 2, 3, 4, 7) {
			s += say(k.c.Match(id)) + " "
		}
		return s
	}
	none := "0 0 0 0 0 0 0 0 0 0 0 0 0 0 0 "
	is(t, all(), none)
	k.tick(10)
	is(t, all(), none)
	k.step(voteYes(3, 2, 1))
	is(t, all(), none)
	k.step(appYes(3, 2, 1, 1))
	is(t, all(), "0 0 0 0 0 0 0 0 0 0 0 0 1 0 0 ")
	k.done()
	k.propose("a", 2, 1)
	k.step(appYes(1, 2, 1, 2), appYes(3, 2, 1, 0))
	is(t, all(), "0 0 0 0 0 0 0 0 0 0 2 0 1 0 0 ")
	k.step(vote(1, 2, 2, 0, 0))
	is(t, all(), none)
	// A new reign knows nothing of the earlier one.
	k.tick(10)
	k.step(voteYes(1, 2, 3))
	is(t, all(), none)
	is(t, blank(t, 1, 1).c.Match(1), 0)
}
