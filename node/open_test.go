package node_test

import (
	"fmt"
	"math"
	"testing"

	"synod/api"
	"synod/disk"
	"synod/kv"
	"synod/node"
	"synod/snap"
	"synod/wal"
)

// written is a disk on which a wal has written these batches, and has synced them.
func written(t *testing.T, l ...wal.Batch) *disk.Disk {
	t.Helper()
	d := disk.New()
	w, _, e := wal.Open(d, 4096)
	if e != api.OK {
		t.Fatal(e)
	}
	for _, b := range l {
		if e := w.Append(b); e != api.OK {
			t.Fatalf("%v: %d", b, e)
		}
	}
	w.Sync()
	return d
}

// saved lays snapshots beside what a disk has.
func saved(t *testing.T, d *disk.Disk, l ...api.Snap) *disk.Disk {
	t.Helper()
	for _, s := range l {
		if e := snap.Save(d, s); e != api.OK {
			t.Fatalf("%v: %d", s, e)
		}
	}
	return d
}

// termed is a batch of a state, and of entries from 1 on.
func termed(term, vote, commit int, entries ...api.Entry) wal.Batch {
	return wal.Batch{HasState: true, State: api.State{Term: term, Vote: vote, Commit: commit}, Entries: entries}
}

// refuses holds that Open answers an error, and nothing beside.
func refuses(t *testing.T, o node.Opts, d *disk.Disk, want api.Errno) {
	t.Helper()
	if n, e := node.Open(o, d, 0); n != nil || e != want {
		t.Errorf("Open: %v, %d; want %d", n != nil, e, want)
	}
}

// log is a node's log as text.
func (k kit) log(want string) {
	k.t.Helper()
	base, term, l := k.n.Log()
	is(k.t, say(base, term, shownEntries(l)), want)
}

// walOf is what the wal of a disk says, as text.
func walOf(t *testing.T, d *disk.Disk) string {
	t.Helper()
	copied, _ := disk.Load(d.Files())
	w, _, e := wal.Open(copied, 4096)
	if e != api.OK {
		return say("error", e)
	}
	v := w.View()
	return say(v.State, v.Base, v.BaseTerm, shownEntries(v.Entries))
}

func TestP12_1_New(t *testing.T) {
	k := made(t, opts(1, 3))
	k.view("0 0 0 0; 0 0 0;")
	is(t, say(k.n.View().Core.Timeout, k.n.Done(), len(k.n.Sessions()), shownReply(k.n.Get("a"))), "10 false 0 none")
	k.log("0 0 ")
	is(t, k.d.List(), "[wal-00000001]")
	k.idle(all()...)
}

func TestP12_1_Options(t *testing.T) {
	type edge struct {
		name        string
		field       func(o *node.Opts) *int
		least, most int
	}
	for _, x := range []edge{
		{"Every", func(o *node.Opts) *int { return &o.Every }, 0, api.MaxLog},
		{"Keep", func(o *node.Opts) *int { return &o.Keep }, 0, api.MaxLog},
		{"Segment", func(o *node.Opts) *int { return &o.Segment }, 64, api.MaxFrame},
		{"Inbox", func(o *node.Opts) *int { return &o.Inbox }, 1, api.MaxQueue},
		{"Ticks", func(o *node.Opts) *int { return &o.Ticks }, 1, api.MaxQueue},
		{"Calls", func(o *node.Opts) *int { return &o.Calls }, 1, api.MaxQueue},
		{"Jobs", func(o *node.Opts) *int { return &o.Jobs }, 1, api.MaxQueue},
		{"Applies", func(o *node.Opts) *int { return &o.Applies }, 1, api.MaxQueue},
		{"Out", func(o *node.Opts) *int { return &o.Out }, 1, api.MaxQueue},
		{"ID", func(o *node.Opts) *int { return &o.Core.ID }, 1, 3},
		{"Nodes", func(o *node.Opts) *int { return &o.Core.Nodes }, 1, api.MaxNodes},
		{"Election", func(o *node.Opts) *int { return &o.Core.Election }, 2, 1000},
		{"Beat", func(o *node.Opts) *int { return &o.Core.Beat }, 1, 9},
		{"Batch", func(o *node.Opts) *int { return &o.Core.Batch }, 1, api.MaxEntries},
		{"Window", func(o *node.Opts) *int { return &o.Core.Window }, 1, api.MaxQueue},
		{"Reads", func(o *node.Opts) *int { return &o.Core.Reads }, 1, api.MaxQueue},
		{"Pending", func(o *node.Opts) *int { return &o.Core.Pending }, 1, api.MaxLog},
	} {
		for _, n := range append(far(), x.least-1, x.least, x.most, x.most+1) {
			o := opts(1, 3)
			*x.field(&o) = n
			want := api.OK
			if n < x.least || n > x.most {
				want = api.ErrOpts
			}
			d := disk.New()
			m, e := node.Open(o, d, 0)
			if e != want || (m != nil) != (e == api.OK) || (len(d.List()) > 0) != (e == api.OK) {
				t.Errorf("%s %d: %d; want %d", x.name, n, e, want)
			}
		}
	}
}

// ErrOpts goes ahead of all that the disk says.
func TestP12_1_OptionsFirst(t *testing.T) {
	o := opts(1, 3)
	o.Out = 0
	d := written(t)
	d.Arm(1)
	d.Append("wal-00000001", []byte("xx"))
	is(t, d.Down(), true)
	was := say(d.Files())
	refuses(t, o, d, api.ErrOpts)
	is(t, say(d.Files()), was)
	refuses(t, opts(1, 3), d, api.ErrDown)
	d = disk.New()
	d.Create("wal-00000002")
	refuses(t, o, d, api.ErrOpts)
	refuses(t, opts(1, 3), d, api.ErrCorrupt)
}

func TestP12_1_Draws(t *testing.T) {
	for draw, want := range map[int]int{0: 10, 3: 13, 80: 90, 81: 90, -1: 10, math.MinInt: 10, math.MaxInt: 90} {
		n, e := node.Open(opts(1, 3), disk.New(), draw)
		is(t, say(e, n.View().Core.Timeout), say(0, want))
	}
}

// A wal alone: its state and its entries.
func TestP12_1_Wal(t *testing.T) {
	entries := []api.Entry{empty(1, 1), commands(1, 2, put(1, 1, "a", "x")), empty(4, 3)}
	k := opened(t, opts(1, 3), written(t, termed(4, 2, 2, entries...)))
	k.view("4 2 0 0; 2 0 3;")
	k.log("0 0 1/1 2/1x 3/4")
	k.idle(node.PNotice, node.PApply)
	// What is committed is told to be applied.
	k.picks("", node.PWork)
	k.picks("apply 1, apply 2", node.PApply)
	is(t, shownReply(k.n.Get("a")), "done x")
	// A commit that the entries don't reach.
	k = opened(t, opts(1, 3), written(t, termed(4, 2, 9, entries...)))
	k.view("4 2 0 0; 3 0 3;")
}

// Of a wal and a snapshot that the wal has.
func TestP12_1_Snapshot(t *testing.T) {
	entries := of(1, 1, 1, 2, 2, 3)
	k := opened(t, opts(1, 3), saved(t, written(t, termed(4, 2, 2, entries...)), storeWith(3, 2, "a", "x")))
	k.view("4 2 0 0; 3 3 5; stored 3 snap 3")
	k.log("3 2 4/2 5/3")
	is(t, say(shownReply(k.n.Get("a")), len(k.n.Sessions())), "done x 1")
	is(t, walOf(t, k.d), "{4 2 2} 0 0 1/1 2/1 3/2 4/2 5/3")
	// The last one, and the first one.
	k = opened(t, opts(1, 3), saved(t, written(t, termed(4, 2, 9, entries...)), storeWith(5, 3, "a", "x")))
	k.log("5 3 ")
	is(t, walOf(t, k.d), "{4 2 9} 0 0 1/1 2/1 3/2 4/2 5/3")
	k = opened(t, opts(1, 3), saved(t, written(t, termed(4, 2, 4, entries...)), storeWith(1, 1, "a", "x")))
	k.view("4 2 0 0; 4 1 5; stored 1 snap 1")
	k.log("1 1 2/1 3/2 4/2 5/3")
	// The newest that is whole.
	d := saved(t, written(t, termed(4, 2, 2, entries...)), storeWith(2, 1, "a", "2"), storeWith(3, 2, "a", "3"), storeWith(4, 2, "a", "4"))
	d.Cut("snap-0000000000000000004", 5)
	k = opened(t, opts(1, 3), d)
	k.log("3 2 4/2 5/3")
	is(t, say(shownReply(k.n.Get("a")), k.n.View().Snap), "done 3 3")
}

// The snapshot's index is the view's base.
func TestP12_1_SnapshotIsBase(t *testing.T) {
	behind := wal.Batch{Index: 5, Term: 2, Entries: of(6, 2, 3)}
	d := saved(t, written(t, termed(4, 0, 0), behind), storeWith(5, 2, "a", "x"))
	was := say(d.Files())
	k := opened(t, opts(1, 3), d)
	k.view("4 0 0 0; 5 5 7; stored 5 snap 5")
	k.log("5 2 6/2 7/3")
	is(t, say(d.Files()), was)
	// Its term is another one: a mark is written, durable, and all entries go.
	d = saved(t, written(t, termed(4, 0, 0), behind), storeWith(5, 1, "a", "x"))
	k = opened(t, opts(1, 3), d)
	k.view("4 0 0 0; 5 5 5; stored 5 snap 5")
	k.log("5 1 ")
	d.Crash(0)
	is(t, walOf(t, d), "{4 0 0} 5 1 ")
	// The base's term isn't known: 0.
	d = saved(t, written(t, termed(4, 0, 0), wal.Batch{Index: 9, Term: 3}, wal.Batch{Entries: of(6, 3, 4)}), storeWith(5, 2, "a", "x"))
	is(t, walOf(t, d), "{4 0 0} 5 0 6/3 7/4")
	was = say(d.Files())
	k = opened(t, opts(1, 3), d)
	k.log("5 2 6/3 7/4")
	is(t, say(d.Files()), was)
}

// The wal hasn't the snapshot: a mark of it is written, and nothing else.
func TestP12_1_Mark(t *testing.T) {
	for _, x := range []struct{ index, term int }{{9, 2}, {6, 3}, {3, 1}, {5, 2}, {top, 4}} {
		d := saved(t, written(t, termed(4, 2, 1, of(1, 1, 1, 2, 2, 3)...)), storeWith(x.index, x.term, "a", "x"))
		k := opened(t, opts(1, 3), d)
		k.view(fmt.Sprintf("4 2 0 0; %d %d %d; stored %d snap %d", x.index, x.index, x.index, x.index, x.index))
		k.log(say(x.index, x.term, ""))
		for _, f := range d.Files() {
			is(t, f.Synced, len(f.Data))
		}
		d.Crash(0)
		is(t, walOf(t, d), say("{4 2 1}", x.index, x.term, ""))
		is(t, d.List(), fmt.Sprintf("[snap-%019d wal-00000001]", x.index))
		// It has it from then on.
		was := say(d.Files())
		opened(t, opts(1, 3), d)
		is(t, say(d.Files()), was)
	}
}

func TestP12_1_Corrupt(t *testing.T) {
	based := func() *disk.Disk { return written(t, termed(4, 0, 0), wal.Batch{Index: 5, Term: 2, Entries: of(6, 2)}) }
	refuses(t, opts(1, 3), based(), api.ErrCorrupt)
	refuses(t, opts(1, 3), saved(t, based(), storeWith(4, 2, "a", "x")), api.ErrCorrupt)
	refuses(t, opts(1, 3), saved(t, based(), storeWith(1, 1, "a", "x")), api.ErrCorrupt)
	d := saved(t, based(), storeWith(5, 2, "a", "x"))
	opened(t, opts(1, 3), d)
	d.Cut("snap-0000000000000000005", 9)
	was := say(d.Files())
	refuses(t, opts(1, 3), d, api.ErrCorrupt)
	is(t, say(d.Files()), was)
	// It goes ahead of the mark, and of what the data say.
	d = saved(t, based(), api.Snap{Index: 3, Term: 9, Data: []byte("x")})
	was = say(d.Files())
	refuses(t, opts(1, 3), d, api.ErrCorrupt)
	is(t, say(d.Files()), was)
}

// A snapshot that no store has: the mark stays on the disk.
func TestP12_1_NoStore(t *testing.T) {
	for _, data := range []string{"", "x", "\x01\x00\x00\x00", string(kv.New().Snapshot()) + "x"} {
		d := saved(t, written(t, termed(4, 2, 1, of(1, 1, 1)...)), api.Snap{Index: 9, Term: 2, Data: []byte(data)})
		refuses(t, opts(1, 3), d, api.ErrCorrupt)
		is(t, walOf(t, d), "{4 2 1} 9 2 ")
	}
	// It goes ahead of the core's error.
	d := saved(t, written(t, termed(4, 4, 1, of(1, 1, 1)...)), api.Snap{Index: 1, Term: 1, Data: []byte("x")})
	refuses(t, opts(1, 3), d, api.ErrCorrupt)
}

func TestP12_1_CoresError(t *testing.T) {
	refuses(t, opts(1, 3), written(t, termed(4, 4, 0)), api.ErrForm)
	opened(t, opts(1, 4), written(t, termed(4, 4, 0)))
	refuses(t, opts(1, 3), written(t, termed(1, 1, 0, of(1, 2)...)), api.ErrForm)
	refuses(t, opts(1, 3), written(t, wal.Batch{Entries: of(1, 1)}), api.ErrForm)
	refuses(t, opts(1, 3), written(t, termed(9, 1, 0, of(1, 2, 1)...)), api.ErrForm)
	refuses(t, opts(1, 3), saved(t, written(t, termed(4, 0, 0)), storeWith(9, 5, "a", "")), api.ErrForm)
	var many []api.Entry
	for i := range api.MaxLog + 1 {
		many = append(many, empty(1, i+1))
	}
	d := written(t, termed(1, 1, 0, many...))
	refuses(t, opts(1, 3), d, api.ErrFull)
	// Above a snapshot there may be as many.
	k := opened(t, opts(1, 3), saved(t, d, storeWith(1, 1, "a", "")))
	is(t, k.n.View().Core.Last, api.MaxLog+1)
}

// A wal whose end is torn, and errors of the wal and the disk.
func TestP12_1_WalsError(t *testing.T) {
	d := written(t, termed(4, 2, 0, of(1, 1)...))
	d.Append("wal-00000001", []byte("torn"))
	k := opened(t, opts(1, 3), d)
	k.log("0 0 1/1")
	d = written(t, termed(4, 2, 0))
	d.Cut("wal-00000001", 3)
	d.Append("wal-00000001", []byte("not a head of any kind"))
	d.Create("wal-00000002")
	refuses(t, opts(1, 3), d, api.ErrCorrupt)
	d = written(t)
	d.Create("wal-00000003")
	refuses(t, opts(1, 3), d, api.ErrCorrupt)
}

// The disk fails at each write of Open: ErrDown, and what was done stays.
func TestP12_1_DisksError(t *testing.T) {
	disks := []func() *disk.Disk{
		disk.New,
		func() *disk.Disk { return written(t, termed(4, 2, 0)) },
		func() *disk.Disk { return saved(t, written(t, termed(4, 2, 0)), storeWith(5, 1, "a", "x")) },
	}
	for i, writes := range []int{3, 1, 3} { // create, append, sync; sync; sync, append, sync
		for n := 1; n <= writes; n++ {
			d := disks[i]()
			d.Arm(n)
			refuses(t, opts(1, 3), d, api.ErrDown)
			is(t, d.Down(), true)
			refuses(t, opts(1, 3), d, api.ErrDown)
			d.Crash(n)
			k := opened(t, opts(1, 3), d)
			is(t, say(k.n.View().Core.Term, k.n.View().Stored), []string{"0 0", "4 0", "4 5"}[i])
		}
		d := disks[i]()
		d.Arm(writes + 1)
		k := opened(t, opts(1, 3), d)
		is(t, d.Down(), false)
		// The node has kept the disk.
		d.Arm(1)
		k.steps(vote(2, 7, top, 6))
		k.picks("", node.PWork)
		k.picks("down", node.PWrite)
	}
}
