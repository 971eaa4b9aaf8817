package wal_test

import (
	"bytes"
	"math"
	"slices"
	"strings"
	"testing"

	"synod/api"
	"synod/disk"
	"synod/wal"
)

func TestP5_2_Records(t *testing.T) {
	for i, x := range []struct {
		b    wal.Batch
		want [][]byte
		view string
	}{
		// Nothing at all, and what is said already.
		{wal.Batch{}, nil, "1 1 0;0 0; 1/1 2/1=ab"},
		{stated(1, 1, 0), nil, "1 1 0;0 0; 1/1 2/1=ab"},
		{marked(1, 1), nil, "1 1 0;0 0; 1/1 2/1=ab"},
		{marked(2, 1), nil, "1 1 0;0 0; 1/1 2/1=ab"},
		{wal.Batch{Entries: []api.Entry{}}, nil, "1 1 0;0 0; 1/1 2/1=ab"},
		// Without HasState the state is nothing, whatever it is.
		{wal.Batch{State: api.State{Term: -1, Vote: 99, Commit: 5}}, nil, "1 1 0;0 0; 1/1 2/1=ab"},
		// States: a new Term, a new Vote, a new Commit, both.
		{stated(2, 1, 0), [][]byte{state(2, 1, 0)}, "2 1 0;0 0; 1/1 2/1=ab"},
		{stated(1, 0, 0), [][]byte{state(1, 0, 0)}, "1 0 0;0 0; 1/1 2/1=ab"},
		{stated(1, 7, 0), [][]byte{state(1, 7, 0)}, "1 7 0;0 0; 1/1 2/1=ab"},
		{stated(0, 0, 0), [][]byte{state(0, 0, 0)}, "0 0 0;0 0; 1/1 2/1=ab"},
		{stated(1, 1, 9), [][]byte{state(1, 1, 9)}, "1 1 9;0 0; 1/1 2/1=ab"},
		{stated(2, 0, 2), [][]byte{state(2, 0, 0), state(2, 0, 2)}, "2 0 2;0 0; 1/1 2/1=ab"},
		{stated(api.MaxIndex, 7, api.MaxIndex), [][]byte{state(api.MaxIndex, 7, 0), state(api.MaxIndex, 7, api.MaxIndex)}, say(api.MaxIndex, 7, api.MaxIndex) + ";0 0; 1/1 2/1=ab"},
		// Entries: one above the last, at it, within, several.
		{entries(empty(1, 3)), [][]byte{entry(empty(1, 3))}, "1 1 0;0 0; 1/1 2/1=ab 3/1"},
		{entries(empty(2, 2)), [][]byte{entry(empty(2, 2))}, "1 1 0;0 0; 1/1 2/2"},
		{entries(command(2, 1, "")), [][]byte{entry(command(2, 1, ""))}, "1 1 0;0 0; 1/2="},
		{entries(command(2, 2, "x"), empty(3, 3)), [][]byte{entry(command(2, 2, "x")), entry(empty(3, 3))}, "1 1 0;0 0; 1/1 2/2=x 3/3"},
		{entries(empty(2, 3), empty(2, 4), empty(3, 2), empty(3, 3)), [][]byte{entry(empty(2, 3)), entry(empty(2, 4)), entry(empty(3, 2)), entry(empty(3, 3))}, "1 1 0;0 0; 1/1 2/3 3/3"},
		// The same again is written again.
		{entries(empty(1, 1)), [][]byte{entry(empty(1, 1))}, "1 1 0;0 0; 1/1"},
		{entries(empty(api.MaxIndex, 3)), [][]byte{entry(empty(api.MaxIndex, 3))}, "1 1 0;0 0; 1/1 2/1=ab 3/" + say(api.MaxIndex)},
		// Marks that the view hasn't.
		{marked(1, 2), [][]byte{mark(1, 2)}, "1 1 0;1 2;"},
		{marked(2, 2), [][]byte{mark(2, 2)}, "1 1 0;2 2;"},
		{marked(3, 1), [][]byte{mark(3, 1)}, "1 1 0;3 1;"},
		{marked(9, 3, empty(3, 10)), [][]byte{mark(9, 3), entry(empty(3, 10))}, "1 1 0;9 3; 10/3"},
		{marked(api.MaxIndex, api.MaxIndex), [][]byte{mark(api.MaxIndex, api.MaxIndex)}, "1 1 0;" + say(api.MaxIndex, api.MaxIndex) + ";"},
		{marked(2, 1, empty(1, 3)), [][]byte{entry(empty(1, 3))}, "1 1 0;0 0; 1/1 2/1=ab 3/1"},
		// Behind a mark: at its index, and below it.
		{marked(9, 3, empty(3, 9)), [][]byte{mark(9, 3), entry(empty(3, 9))}, "1 1 0;8 0; 9/3"},
		{marked(9, 3, empty(3, 1), empty(3, 2)), [][]byte{mark(9, 3), entry(empty(3, 1)), entry(empty(3, 2))}, "1 1 0;0 0; 1/3 2/3"},
		// All at once, in its order.
		{wal.Batch{HasState: true, State: api.State{Term: 4, Vote: 2, Commit: 8}, Index: 7, Term: 3, Entries: []api.Entry{empty(3, 8), command(4, 9, "z")}},
			[][]byte{state(4, 2, 0), mark(7, 3), entry(empty(3, 8)), entry(command(4, 9, "z")), state(4, 2, 8)}, "4 2 8;7 3; 8/3 9/4=z"},
		{stated(1, 1, 3, empty(1, 3)), [][]byte{entry(empty(1, 3)), state(1, 1, 3)}, "1 1 3;0 0; 1/1 2/1=ab 3/1"},
		{stated(2, 1, 0, empty(2, 3)), [][]byte{state(2, 1, 0), entry(empty(2, 3))}, "2 1 0;0 0; 1/1 2/1=ab 3/2"},
	} {
		d, w := begun(t)
		told(t, w.Append(x.b), api.OK)
		look(t, w, x.view)
		records := join(x.want...)
		holds(t, d, api.File{Name: name(1), Data: join(begunBytes(), records), Synced: 57})
		if w.Bytes() != 57+len(records) {
			t.Errorf("%d: %d bytes", i, w.Bytes())
		}
		ok(t, w.Sync())
		look(t, opened(t, d, 64, false), x.view)
	}
}

// The state ahead of the entries has the view's Commit, whatever that is.
func TestP5_2_EarlyStateHasTheOldCommit(t *testing.T) {
	for _, commit := range []int{1, 3} {
		d := disk.New()
		w := opened(t, d, 1000, false)
		ok(t, w.Append(stated(1, 1, 2, empty(1, 1))), w.Append(stated(3, 2, commit, empty(3, 2))))
		look(t, w, say(3, 2, commit)+";0 0; 1/1 2/3")
		first, second := join(state(1, 1, 0), entry(empty(1, 1)), state(1, 1, 2)), join(state(3, 2, 2), entry(empty(3, 2)), state(3, 2, commit))
		holds(t, d, api.File{Name: name(1), Data: join(begin(), first, second), Synced: 15})
	}
}

// An entry at the base, and below it, takes the log back behind it; the base's term is not known then.
func TestP5_2_BelowTheBase(t *testing.T) {
	for _, x := range []struct {
		index int
		want  string
	}{{9, "1 1 0;8 0; 9/4"}, {8, "1 1 0;7 0; 8/4"}, {1, "1 1 0;0 0; 1/4"}} {
		d, w := begun(t)
		ok(t, w.Append(marked(9, 3, empty(3, 10), empty(3, 11))), w.Append(entries(empty(4, x.index))))
		look(t, w, x.want)
		// A mark of that base isn't there: its term is another one.
		if x.index > 1 {
			ok(t, w.Append(marked(x.index-1, 3)))
			look(t, w, "1 1 0;"+say(x.index-1, 3)+";")
		}
		ok(t, w.Sync())
		look(t, opened(t, d, 64, false), shown(w.View()))
	}
}

func TestP5_2_LongestEntry(t *testing.T) {
	d := disk.New()
	w := opened(t, d, 64, false)
	e := api.Entry{Term: api.MaxIndex, Index: 1, Kind: api.ECommand, Data: bytes.Repeat([]byte("x"), api.MaxData)}
	ok(t, w.Append(entries(e)), w.Sync())
	v := opened(t, d, 64, false).View()
	if len(v.Entries) != 1 || !bytes.Equal(v.Entries[0].Data, e.Data) {
		t.Errorf("%d entries", len(v.Entries))
	}
	// Many of them are one write, longer than any frame.
	var many []api.Entry
	for i := range 300 {
		e.Index = i + 2
		many = append(many, e)
	}
	ok(t, w.Append(entries(many...)), w.Sync())
	if v := opened(t, d, 64, false).View(); len(v.Entries) != 301 || w.Bytes() < api.MaxFrame || w.Bytes() != d.Size() {
		t.Errorf("%d entries, %d bytes", len(v.Entries), w.Bytes())
	}
}

// wrongBatches are batches that a wal of begun refuses, with the error that is told first.
func wrongBatches() []struct {
	b wal.Batch
	e api.Errno
} {
	above := api.MaxIndex + 1
	long := api.Entry{Term: 1, Index: 3, Kind: api.ECommand, Data: make([]byte, api.MaxData+1)}
	filled := api.Entry{Term: 1, Index: 3, Data: []byte("a")}
	kind := api.Entry{Term: 1, Index: 3, Kind: 2}
	with := func(b wal.Batch, index, term int) wal.Batch {
		b.Index, b.Term = index, term
		return b
	}
	return []struct {
		b wal.Batch
		e api.Errno
	}{
		{stated(-1, 0, 0), api.ErrRange}, {stated(above, 0, 0), api.ErrRange}, {stated(1, -1, 0), api.ErrRange}, {stated(1, 8, 0), api.ErrRange},
		{stated(1, 0, -1), api.ErrRange}, {stated(1, 0, above), api.ErrRange}, {stated(0, 1, 0), api.ErrForm},
		{marked(0, 1), api.ErrRange}, {marked(1, 0), api.ErrRange}, {marked(-1, 1), api.ErrRange}, {marked(1, -1), api.ErrRange}, {marked(-1, -1), api.ErrRange},
		{marked(above, 1), api.ErrRange}, {marked(1, above), api.ErrRange}, {marked(math.MinInt, math.MinInt), api.ErrRange}, {marked(math.MaxInt, math.MaxInt), api.ErrRange},
		{marked(0, -1), api.ErrRange}, {marked(-1, 0), api.ErrRange}, {marked(2, 0, empty(1, 3)), api.ErrRange},
		{entries(empty(0, 3)), api.ErrRange}, {entries(empty(1, 0)), api.ErrRange}, {entries(empty(1, -1)), api.ErrRange}, {entries(empty(-1, 3)), api.ErrRange},
		{entries(empty(above, 3)), api.ErrRange}, {entries(empty(1, above)), api.ErrRange}, {entries(empty(1, math.MinInt)), api.ErrRange}, {entries(empty(1, math.MaxInt)), api.ErrRange},
		{entries(kind), api.ErrKind}, {entries(long), api.ErrLong}, {entries(filled), api.ErrForm},
		{entries(empty(1, 3), kind), api.ErrKind}, {entries(empty(1, 3), empty(1, 4), long), api.ErrLong}, {entries(kind, long), api.ErrKind}, {entries(filled, empty(0, 0)), api.ErrForm},
		{entries(empty(1, 4)), api.ErrGap}, {entries(empty(1, api.MaxIndex)), api.ErrGap}, {entries(empty(1, 3), empty(1, 5)), api.ErrGap}, {entries(empty(1, 1), empty(1, 3)), api.ErrGap},
		{entries(empty(1, 3), empty(1, 2), empty(1, 4)), api.ErrGap}, {entries(empty(1, 4), empty(1, 3)), api.ErrGap},
		// In the view as the mark leaves it.
		{marked(9, 3, empty(3, 11)), api.ErrGap}, {marked(1, 2, empty(2, 3)), api.ErrGap}, {marked(1, 1, empty(1, 4)), api.ErrGap},
		{marked(2, 1, empty(1, 4)), api.ErrGap}, {marked(9, 3, empty(3, 10), empty(3, 12)), api.ErrGap}, {marked(9, 3, empty(3, 5), empty(3, 10)), api.ErrGap},
		{marked(api.MaxIndex, 1, empty(1, api.MaxIndex-1), empty(1, api.MaxIndex-3), empty(1, api.MaxIndex)), api.ErrGap},
		// The order: the state, the mark, an entry's own error, a gap.
		{with(stated(0, 1, 0, kind), 0, 1), api.ErrForm}, {with(stated(0, 1, 0), -1, 1), api.ErrForm}, {stated(0, 1, 0, long), api.ErrForm}, {stated(0, 1, 0, empty(1, 9)), api.ErrForm},
		{with(stated(1, 9, 0, kind), 0, 1), api.ErrRange}, {marked(0, 1, kind), api.ErrRange}, {marked(1, 0, long), api.ErrRange}, {marked(0, 1, filled), api.ErrRange}, {marked(0, 1, empty(1, 9)), api.ErrRange},
		{with(stated(1, 1, 0, kind), 5, 0), api.ErrRange}, {entries(empty(1, 9), kind), api.ErrKind}, {entries(empty(1, 9), empty(1, 1), filled), api.ErrForm},
		{marked(9, 3, empty(1, 20), long), api.ErrLong},
	}
}

func TestP5_2_Wrong(t *testing.T) {
	d, w := begun(t)
	for i, x := range wrongBatches() {
		if e := w.Append(x.b); e != x.e {
			t.Errorf("%d: %d; not %d", i, e, x.e)
		}
	}
	look(t, w, "1 1 0;0 0; 1/1 2/1=ab")
	holds(t, d, segment(1, begunBytes()))
	// None of them broke the wal.
	ok(t, w.Append(entries(empty(1, 3))), w.Sync())
}

func TestP5_2_RefusedBeginsNoSegment(t *testing.T) {
	d := load(t, segment(1, begunBytes(), state(2, 0, 0)))
	w := opened(t, d, 64, false)
	was := filesOf(d)
	for i, x := range wrongBatches() {
		// An armed disk would tell of any write.
		d.Arm(1)
		if e := w.Append(x.b); e != x.e || d.Down() || filesOf(d) != was {
			t.Errorf("%d: %d; not %d", i, e, x.e)
		}
	}
	look(t, w, "2 0 0;0 0; 1/1 2/1=ab")
	d.Arm(0)
	ok(t, w.Append(wal.Batch{}))
	if len(w.Segments()) != 2 {
		t.Errorf("%v", w.Segments())
	}
}

// A segment with fewer bytes than Open was told goes on; one with as many, or more, is followed by another.
func TestP5_2_Full(t *testing.T) {
	for _, x := range []struct {
		data, bytes int
		rolls       bool
	}{{34, 64, false}, {35, 64, true}, {36, 64, true}, {35, 65, false}, {36, 65, true}, {90, 64, true}, {90, 200, false}} {
		d := disk.New()
		w := opened(t, d, x.bytes, false)
		// A head of 15 bytes, and an entry of 14 and its data.
		e := command(1, 1, strings.Repeat("x", x.data))
		ok(t, w.Append(entries(e)))
		if w.Bytes() != 29+x.data {
			t.Fatalf("%d bytes", w.Bytes())
		}
		first := segment(1, begin(), entry(e))
		first.Synced = 15
		holds(t, d, first)
		ok(t, w.Append(stated(1, 2, 0, empty(1, 2))))
		rest := join(state(1, 2, 0), entry(empty(1, 2)))
		if x.rolls {
			// The head has the view ahead of the batch; all ahead of the batch is durable.
			first.Synced = len(first.Data)
			holds(t, d, first, api.File{Name: name(2), Data: join(head(2, none, 1, 1), rest), Synced: 15})
		} else {
			first.Data = join(first.Data, rest)
			holds(t, d, first)
		}
		look(t, w, "1 2 0;0 0; 1/1="+strings.Repeat("x", 9)+" 2/1")
		ok(t, w.Sync())
		look(t, opened(t, d, x.bytes, false), shown(w.View()))
	}
}

// A segment begins also where no record follows; once, since it isn't full then.
func TestP5_2_BeginsWithoutRecords(t *testing.T) {
	for i, b := range []wal.Batch{{}, stated(2, 1, 1), marked(5, 2), marked(6, 2), {Entries: []api.Entry{}}} {
		first := segment(1, begin(), state(2, 1, 1), mark(5, 2), entry(command(2, 6, strings.Repeat("x", 20))))
		d := load(t, first)
		w := opened(t, d, 64, false)
		for range 3 {
			ok(t, w.Append(b))
			holds(t, d, first, segment(2, head(2, api.State{Term: 2, Vote: 1, Commit: 1}, 6, 2)))
		}
		if w.Bytes() != d.Size() || len(w.Segments()) != 2 {
			t.Errorf("%d: %d, %v", i, w.Bytes(), w.Segments())
		}
		look(t, opened(t, d, 64, false), "2 1 1;5 2; 6/2=xxxxxxxxx")
	}
	// A base, where there is no entry.
	first := segment(1, begin(), mark(5, 2), state(2, 1, 1), state(2, 1, 2), state(2, 1, 3), state(2, 1, 4))
	d := load(t, first)
	ok(t, opened(t, d, 64, false).Append(wal.Batch{}))
	holds(t, d, first, segment(2, head(2, api.State{Term: 2, Vote: 1, Commit: 4}, 5, 2)))
}

func TestP5_2_NumbersGoOn(t *testing.T) {
	d := load(t, segment(99999997, head(99999997, none, 0, 0), entry(command(1, 1, strings.Repeat("x", 60)))))
	w := opened(t, d, 64, false)
	ok(t, w.Append(entries(command(1, 2, strings.Repeat("y", 60)))), w.Append(entries(empty(1, 3))), w.Sync())
	if say(w.Segments()) != "[wal-99999997 wal-99999998 wal-99999999]" {
		t.Errorf("%v", w.Segments())
	}
	look(t, opened(t, d, 64, false), shown(w.View()))
}

// steps arms a disk's writes one behind the other: what each call of do answers, and the disk's files, where the n-th
// write fails; up to the first n at which none does.
func steps(t *testing.T, make func(*testing.T) (*disk.Disk, *wal.Wal), do func(*wal.Wal) api.Errno, check func(n int, d *disk.Disk, w *wal.Wal)) int {
	t.Helper()
	for n := 1; ; n++ {
		d, w := make(t)
		was := shown(w.View())
		d.Arm(n)
		e := do(w)
		if e == api.OK && !d.Down() {
			return n - 1
		}
		told(t, e, api.ErrDown)
		look(t, w, was)
		check(n, d, w)
		// It is broken, whatever becomes of the disk, and whatever it is asked.
		for _, keep := range []int{-1, 0} {
			for _, x := range wrongBatches() {
				told(t, w.Append(x.b), api.ErrDown)
			}
			told(t, w.Append(wal.Batch{}), api.ErrDown)
			told(t, w.Append(entries(empty(1, 1))), api.ErrDown)
			told(t, w.Sync(), api.ErrDown)
			for _, index := range []int{math.MinInt, -1, 0, 1, 2, 99, math.MaxInt} {
				if n, e := w.Compact(index); n != 0 || e != api.ErrDown {
					t.Errorf("Compact of a broken wal: %d, %d", n, e)
				}
			}
			look(t, w, was)
			if keep < 0 {
				d.Crash(0)
			}
		}
		files := filesOf(d)
		w.Segments()
		w.Bytes()
		if filesOf(d) != files {
			t.Errorf("a broken wal writes")
		}
	}
}

func TestP5_2_EachWriteFails(t *testing.T) {
	batch := stated(2, 1, 3, empty(2, 3))
	records := join(state(2, 1, 0), entry(empty(2, 3)), state(2, 1, 3))
	do := func(w *wal.Wal) api.Errno { return w.Append(batch) }
	// All records are one write, of which the first half stands.
	n := steps(t, begun, do, func(n int, d *disk.Disk, w *wal.Wal) {
		holds(t, d, api.File{Name: name(1), Data: join(begunBytes(), records[:len(records)/2]), Synced: 57})
	})
	if n != 1 {
		t.Errorf("%d writes", n)
	}
	// With a new segment: sync, create, append of the head, sync, append.
	second := head(2, none, 1, 1)
	e := command(1, 1, strings.Repeat("x", 50))
	first := segment(1, begin(), entry(e))
	soft := first
	soft.Synced = 15
	batch = entries(empty(2, 2), empty(2, 3))
	records = join(entry(empty(2, 2)), entry(empty(2, 3)))
	full := func(t *testing.T) (*disk.Disk, *wal.Wal) {
		d := disk.New()
		w := opened(t, d, 64, false)
		ok(t, w.Append(entries(e)))
		return d, w
	}
	stages := [][]api.File{{soft}, {first}, {first, {Name: name(2), Data: second[:7]}}, {first, {Name: name(2), Data: second}}, {first, {Name: name(2), Data: join(second, records[:14]), Synced: 15}}}
	n = steps(t, full, do, func(n int, d *disk.Disk, w *wal.Wal) { holds(t, d, stages[n-1]...) })
	if n != 5 {
		t.Errorf("%d writes", n)
	}
	// A new segment alone.
	batch = wal.Batch{}
	n = steps(t, full, do, func(n int, d *disk.Disk, w *wal.Wal) { holds(t, d, stages[n-1]...) })
	if n != 4 {
		t.Errorf("%d writes", n)
	}
	// Nothing to be written: no write.
	n = steps(t, begun, do, func(int, *disk.Disk, *wal.Wal) {})
	if n != 0 {
		t.Errorf("%d writes", n)
	}
}

// broken holds that a wal is.
func broken(t *testing.T, w *wal.Wal, view string) {
	t.Helper()
	_, e := w.Compact(0)
	if say(w.Append(wal.Batch{}), w.Sync(), e) != say(api.ErrDown, api.ErrDown, api.ErrDown) {
		t.Errorf("it isn't broken")
	}
	look(t, w, view)
}

// Any error of the disk breaks the wal, and goes up as it is.
func TestP5_2_DiskErrors(t *testing.T) {
	d, w := begun(t)
	ok(t, d.Create("a"), d.Append("a", make([]byte, api.MaxDisk-57-13)))
	told(t, w.Append(entries(empty(1, 3))), api.ErrFull)
	broken(t, w, "1 1 0;0 0; 1/1 2/1=ab")
	ok(t, d.Remove("a"))
	broken(t, w, "1 1 0;0 0; 1/1 2/1=ab")
	holds(t, d, segment(1, begunBytes()))
	// Just enough room.
	d, w = begun(t)
	ok(t, d.Create("a"), d.Append("a", make([]byte, api.MaxDisk-57-14)), w.Append(entries(empty(1, 3))))
	// A disk that was down ahead of the call.
	d, w = begun(t)
	d.Arm(1)
	d.Create("a")
	told(t, w.Append(entries(empty(1, 4))), api.ErrGap)
	told(t, w.Append(entries(empty(1, 3))), api.ErrDown)
	d.Crash(0)
	broken(t, w, "1 1 0;0 0; 1/1 2/1=ab")
	// Somebody has taken the segment away, or has laid one where the next is to be.
	d, w = begun(t)
	ok(t, d.Remove(name(1)))
	told(t, w.Append(entries(empty(1, 3))), api.ErrNone)
	broken(t, w, "1 1 0;0 0; 1/1 2/1=ab")
	d, w = begun(t)
	ok(t, w.Append(entries(empty(1, 3))), d.Create(name(2)))
	told(t, w.Append(entries(empty(1, 4))), api.ErrThere)
	broken(t, w, "1 1 0;0 0; 1/1 2/1=ab 3/1")
	// A disk that is down is not asked, where nothing is written.
	d, w = begun(t)
	d.Arm(1)
	d.Create("a")
	ok(t, w.Append(wal.Batch{}), w.Append(stated(1, 1, 0)))
	// There is no room for another file.
	d, w = begun(t)
	for i := range api.MaxFiles - 1 {
		ok(t, d.Create(say("f", i)))
	}
	ok(t, w.Append(entries(empty(1, 3))))
	told(t, w.Append(entries(empty(1, 4))), api.ErrFull)
	broken(t, w, "1 1 0;0 0; 1/1 2/1=ab 3/1")
}

func TestP5_3_Sync(t *testing.T) {
	d, w := begun(t)
	ok(t, w.Append(entries(empty(1, 3))))
	f := segment(1, begunBytes(), entry(empty(1, 3)))
	f.Synced = 57
	holds(t, d, f)
	ok(t, w.Sync())
	f.Synced = 71
	holds(t, d, f)
	ok(t, w.Sync(), w.Sync())
	holds(t, d, f)
	// The last one of several, and no other file.
	ok(t, w.Append(entries(empty(2, 4))), d.Create("a"), d.Append("a", []byte("x")), w.Sync())
	holds(t, d, api.File{Name: "a", Data: []byte("x")}, f, segment(2, head(2, api.State{Term: 1, Vote: 1}, 3, 1), entry(empty(2, 4))))
	look(t, w, "1 1 0;0 0; 1/1 2/1=ab 3/1 4/2")
}

func TestP5_3_Fails(t *testing.T) {
	unsynced := func(t *testing.T) (*disk.Disk, *wal.Wal) {
		d, w := begun(t)
		ok(t, w.Append(entries(empty(1, 3))))
		return d, w
	}
	n := steps(t, unsynced, (*wal.Wal).Sync, func(n int, d *disk.Disk, w *wal.Wal) {
		holds(t, d, api.File{Name: name(1), Data: join(begunBytes(), entry(empty(1, 3))), Synced: 57})
	})
	if n != 1 {
		t.Errorf("%d writes", n)
	}
	d, w := begun(t)
	ok(t, d.Remove(name(1)))
	told(t, w.Sync(), api.ErrNone)
	broken(t, w, "1 1 0;0 0; 1/1 2/1=ab")
}

// A state is a value: whoever changes his own changes nobody else's.
func TestP5_2_TwoWals(t *testing.T) {
	d, w := begun(t)
	e, v := begun(t)
	ok(t, w.Append(entries(empty(1, 3))))
	look(t, v, "1 1 0;0 0; 1/1 2/1=ab")
	if slices.Equal(d.Files()[0].Data, e.Files()[0].Data) {
		t.Error("they are one")
	}
}
