package wal_test

import (
	"math"
	"strings"
	"testing"

	"synod/api"
	"synod/disk"
	"synod/wal"
)

// compacted holds what Compact answers, and behind it the view and the segments.
func compacted(t *testing.T, w *wal.Wal, index, want int, view, segments string) {
	t.Helper()
	if n, e := w.Compact(index); n != want || e != api.OK {
		t.Errorf("Compact(%d) is %d, %d; not %d", index, n, e, want)
	}
	look(t, w, view)
	if say(w.Segments()) != segments {
		t.Errorf("Compact(%d): %v; not %s", index, w.Segments(), segments)
	}
}

func TestP5_4_Compact(t *testing.T) {
	for _, x := range []struct {
		index, want int
		view        string
	}{
		{0, 0, threeView}, {1, 0, threeView},
		{2, 1, "1 1 0;2 1; 3/2=bbbbbbbbb 4/2 5/3"}, {3, 1, "1 1 0;2 1; 3/2=bbbbbbbbb 4/2 5/3"},
		{4, 2, "1 1 0;4 2; 5/3"}, {5, 2, "1 1 0;4 2; 5/3"},
	} {
		d, w := three(t)
		files := d.Files()
		names := []string{name(1), name(2), name(3)}
		compacted(t, w, x.index, x.want, x.view, say(names[x.want:]))
		holds(t, d, files[x.want:]...)
		if w.Bytes() != d.Size() {
			t.Errorf("%d bytes; not %d", w.Bytes(), d.Size())
		}
		// A second time nothing is left to be removed.
		compacted(t, w, x.index, 0, x.view, say(names[x.want:]))
		look(t, opened(t, d, 64, false), x.view)
	}
}

func TestP5_4_StepByStep(t *testing.T) {
	d, w := three(t)
	compacted(t, w, 2, 1, "1 1 0;2 1; 3/2=bbbbbbbbb 4/2 5/3", "[wal-00000002 wal-00000003]")
	// Below the base, too: nothing.
	for index := range 4 {
		compacted(t, w, index, 0, "1 1 0;2 1; 3/2=bbbbbbbbb 4/2 5/3", "[wal-00000002 wal-00000003]")
	}
	compacted(t, w, 4, 1, "1 1 0;4 2; 5/3", "[wal-00000003]")
	ok(t, w.Append(entries(command(3, 6, strings.Repeat("c", 50)))), w.Append(entries(empty(3, 7))))
	compacted(t, w, 7, 1, "1 1 0;6 3; 7/3", "[wal-00000004]")
	look(t, opened(t, d, 64, false), "1 1 0;6 3; 7/3")
}

func TestP5_4_Range(t *testing.T) {
	d, w := three(t)
	was := filesOf(d)
	for _, index := range []int{math.MinInt, -5, -1, 6, 7, api.MaxIndex, math.MaxInt} {
		d.Arm(1)
		if n, e := w.Compact(index); n != 0 || e != api.ErrRange || d.Down() {
			t.Errorf("Compact(%d) is %d, %d", index, n, e)
		}
	}
	d.Arm(0)
	if filesOf(d) != was {
		t.Error("the disk has changed")
	}
	// It isn't broken.
	compacted(t, w, 2, 1, "1 1 0;2 1; 3/2=bbbbbbbbb 4/2 5/3", "[wal-00000002 wal-00000003]")
	// Without an entry 0 is the last one, or the base.
	w = opened(t, disk.New(), 64, false)
	compacted(t, w, 0, 0, "0 0 0;0 0;", "[wal-00000001]")
	if n, e := w.Compact(1); n != 0 || e != api.ErrRange {
		t.Errorf("%d, %d", n, e)
	}
	ok(t, w.Append(marked(9, 3)))
	compacted(t, w, 9, 0, "0 0 0;9 3;", "[wal-00000001]")
	if n, e := w.Compact(10); n != 0 || e != api.ErrRange {
		t.Errorf("%d, %d", n, e)
	}
}

// A segment of which the view has no entry any more goes, whatever the index; the base stays.
func TestP5_4_WithoutEntries(t *testing.T) {
	// All entries of the first two are overwritten from the third on.
	_, w := three(t)
	ok(t, w.Append(entries(empty(4, 1))))
	compacted(t, w, 0, 2, "1 1 0;0 0; 1/4", "[wal-00000003]")
	// Those of the second alone: the first has entries above 0, and stays; and so does the second.
	_, w = three(t)
	ok(t, w.Append(entries(empty(4, 2), empty(4, 3))))
	compacted(t, w, 0, 0, "1 1 0;0 0; 1/1=aaaaaaaaa 2/4 3/4", "[wal-00000001 wal-00000002 wal-00000003]")
	compacted(t, w, 1, 2, "1 1 0;1 1; 2/4 3/4", "[wal-00000003]")
	// Behind a mark.
	_, w = three(t)
	ok(t, w.Append(marked(9, 4)))
	compacted(t, w, 0, 2, "1 1 0;9 4;", "[wal-00000003]")
	// States alone.
	d := load(t, segment(4, head(4, none, 7, 2), state(1, 1, 0), state(2, 1, 0)), segment(5, head(5, api.State{Term: 2, Vote: 1}, 7, 2), state(3, 1, 0)))
	w = opened(t, d, 64, false)
	compacted(t, w, 0, 1, "3 1 0;7 2;", "[wal-00000005]")
	// Between segments that have entries.
	d = load(t, segment(1, begin(), entry(empty(1, 1))), segment(2, head(2, none, 1, 1), state(1, 0, 0)), segment(3, head(3, api.State{Term: 1}, 1, 1), entry(empty(2, 2))),
		segment(4, head(4, api.State{Term: 1}, 2, 2)))
	w = opened(t, d, 64, false)
	compacted(t, w, 0, 0, "1 0 0;0 0; 1/1 2/2", "[wal-00000001 wal-00000002 wal-00000003 wal-00000004]")
	compacted(t, w, 1, 2, "1 0 0;1 1; 2/2", "[wal-00000003 wal-00000004]")
	compacted(t, w, 2, 1, "1 0 0;2 2;", "[wal-00000004]")
}

// An entry stands where its record is, also if it came in the place of an older one.
func TestP5_4_StandsWhereItIsWritten(t *testing.T) {
	d, w := three(t)
	ok(t, w.Append(entries(empty(4, 2), empty(4, 3), empty(4, 4), empty(4, 5))))
	compacted(t, w, 5, 2, "1 1 0;1 1; 2/4 3/4 4/4 5/4", "[wal-00000003]")
	// Read again: the base's term isn't known, since its entry is gone.
	look(t, opened(t, d, 64, false), "1 1 0;1 0; 2/4 3/4 4/4 5/4")
}

// What Open has read stands where it was read.
func TestP5_4_BehindOpen(t *testing.T) {
	d, _ := three(t)
	w := opened(t, d, 64, false)
	compacted(t, w, 3, 1, "1 1 0;2 1; 3/2=bbbbbbbbb 4/2 5/3", "[wal-00000002 wal-00000003]")
	w = opened(t, d, 64, false)
	compacted(t, w, 5, 1, "1 1 0;4 2; 5/3", "[wal-00000003]")
}

// Behind Compact the view goes on from its new base.
func TestP5_4_ViewGoesOn(t *testing.T) {
	for _, x := range []struct {
		b    wal.Batch
		want string
	}{
		{entries(empty(4, 3)), "1 1 0;2 1; 3/4"},
		{entries(empty(4, 2)), "1 1 0;1 0; 2/4"},
		{entries(empty(4, 1)), "1 1 0;0 0; 1/4"},
		{entries(empty(4, 6)), "1 1 0;2 1; 3/2=bbbbbbbbb 4/2 5/3 6/4"},
		{marked(2, 1), "1 1 0;2 1; 3/2=bbbbbbbbb 4/2 5/3"},
		{marked(4, 2), "1 1 0;2 1; 3/2=bbbbbbbbb 4/2 5/3"},
		{marked(2, 2), "1 1 0;2 2;"},
		{marked(1, 1), "1 1 0;1 1;"},
	} {
		d, w := three(t)
		compacted(t, w, 2, 1, "1 1 0;2 1; 3/2=bbbbbbbbb 4/2 5/3", "[wal-00000002 wal-00000003]")
		ok(t, w.Append(x.b), w.Sync())
		look(t, w, x.want)
		look(t, opened(t, d, 64, false), x.want)
	}
}

// The last segment is synced first: nothing goes for the sake of what may still be lost.
func TestP5_4_SyncsFirst(t *testing.T) {
	for _, index := range []int{0, 3} {
		d, w := three(t)
		ok(t, w.Append(marked(9, 4)))
		if f := d.Files()[2]; f.Synced == len(f.Data) {
			t.Fatal("it is durable already")
		}
		compacted(t, w, index, 2, "1 1 0;9 4;", "[wal-00000003]")
		if f := d.Files()[0]; f.Synced != len(f.Data) {
			t.Errorf("%d of %d bytes are durable", f.Synced, len(f.Data))
		}
		d.Crash(0)
		look(t, opened(t, d, 64, false), "1 1 0;9 4;")
	}
	// Where nothing is removed, too.
	d, w := begun(t)
	ok(t, w.Append(entries(empty(1, 3))))
	compacted(t, w, 0, 0, "1 1 0;0 0; 1/1 2/1=ab 3/1", "[wal-00000001]")
	holds(t, d, segment(1, begunBytes(), entry(empty(1, 3))))
}

func TestP5_4_EachWriteFails(t *testing.T) {
	d, _ := three(t)
	files := d.Files()
	unsynced := func(t *testing.T) (*disk.Disk, *wal.Wal) {
		d, w := three(t)
		ok(t, w.Append(entries(empty(3, 6))))
		return d, w
	}
	soft := files[2]
	soft.Data = join(soft.Data, entry(empty(3, 6)))
	hard := soft
	hard.Synced = len(hard.Data)
	// Sync, and two that are removed: those that are gone stay so; the view is what it was.
	stages := [][]api.File{{files[0], files[1], soft}, {files[0], files[1], hard}, {files[1], hard}}
	do := func(w *wal.Wal) api.Errno {
		n, e := w.Compact(5)
		if e != api.OK && n != 0 {
			t.Errorf("%d removed, beside %d", n, e)
		}
		return e
	}
	n := steps(t, unsynced, do, func(n int, d *disk.Disk, w *wal.Wal) {
		holds(t, d, stages[n-1]...)
		again := load(t, d.Files()...)
		again.Crash(0)
		v := opened(t, again, 64, false)
		if i, _ := v.Last(); i != 5+min(n-1, 1) {
			t.Errorf("%d: the last is %d", n, i)
		}
	})
	if n != 3 {
		t.Errorf("%d writes", n)
	}
	// Other errors of the disk.
	d, w := three(t)
	ok(t, d.Remove(name(1)))
	if n, e := w.Compact(2); n != 0 || e != api.ErrNone {
		t.Errorf("%d, %d", n, e)
	}
	broken(t, w, threeView)
	d, w = three(t)
	ok(t, d.Remove(name(3)))
	if n, e := w.Compact(0); n != 0 || e != api.ErrNone {
		t.Errorf("%d, %d", n, e)
	}
	broken(t, w, threeView)
}

func TestP5_6_OtherFilesAreLeft(t *testing.T) {
	var others []api.File
	for _, s := range append(wrongNames(), "a", "zz", "snap.tmp") {
		if len(s) <= api.MaxName {
			others = append(others, api.File{Name: s, Data: []byte("123"), Synced: 2})
		}
	}
	d := load(t, others...)
	w := opened(t, d, 64, false)
	for i := range 40 {
		ok(t, w.Append(stated(i+1, 1, i, empty(i+1, i+1))), w.Sync())
	}
	if n, e := w.Compact(30); n == 0 || e != api.OK {
		t.Errorf("%d, %d", n, e)
	}
	want := shown(w.View())
	l := w.Segments()
	ok(t, d.Append(l[len(l)-1], []byte{1}))
	look(t, opened(t, d, 64, true), want)
	var left []api.File
	for _, f := range d.Files() {
		if _, is := wal.Number(f.Name); !is {
			left = append(left, f)
		}
	}
	holds(t, load(t, left...), others...)
}
