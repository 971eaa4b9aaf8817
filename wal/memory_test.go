package wal_test

import (
	"bytes"
	"testing"

	"synod/api"
	"synod/disk"
	"synod/wal"
)

// scribble writes all over a list and its spare room.
func scribble(b []byte) {
	for i := range b[:cap(b)] {
		b[:cap(b)][i] = 0xee
	}
}

// roomy is the bytes of a text, with others behind their length.
func roomy(s string) []byte { return []byte(s + "behind it")[:len(s)] }

// roomyBatch is a batch with bytes behind each list's length: what it shares is the bytes of the first two entries.
func roomyBatch() (wal.Batch, []byte) {
	shared := roomy("abcd")
	l := []api.Entry{command(1, 1, ""), command(1, 2, ""), empty(1, 3), empty(9, 9)}
	l[0].Data, l[1].Data, l[2].Data = shared, shared[:2], roomy("")
	return wal.Batch{HasState: true, State: api.State{Term: 1, Vote: 1, Commit: 1}, Entries: l[:3]}, shared
}

func TestP5_6_AppendKeepsNothing(t *testing.T) {
	d := disk.New()
	w := opened(t, d, 64, false)
	b, shared := roomyBatch()
	was, all := bytes.Clone(shared[:cap(shared)]), say(b.Entries[:4])
	ok(t, w.Append(b), w.Sync())
	if !bytes.Equal(shared[:cap(shared)], was) || say(b.Entries[:4]) != all {
		t.Errorf("what was handed in is changed: %s, %v", shared[:cap(shared)], b.Entries[:4])
	}
	scribble(shared)
	scribble(b.Entries[2].Data)
	clear(b.Entries[:4])
	look(t, w, "1 1 1;0 0; 1/1=abcd 2/1=ab 3/1")
	look(t, opened(t, d, 64, false), "1 1 1;0 0; 1/1=abcd 2/1=ab 3/1")
	// The one that is refused, and the one that fails, too.
	b, shared = roomyBatch()
	b.Entries[2].Index = 4
	was, all = bytes.Clone(shared[:cap(shared)]), say(b.Entries[:4])
	told(t, w.Append(b), api.ErrGap)
	d.Arm(1)
	b.Entries[2].Index = 3
	told(t, w.Append(b), api.ErrDown)
	b.Entries[2].Index = 4
	if !bytes.Equal(shared[:cap(shared)], was) || say(b.Entries[:4]) != all {
		t.Errorf("what was handed in is changed: %s, %v", shared[:cap(shared)], b.Entries[:4])
	}
	scribble(shared)
	clear(b.Entries[:4])
	look(t, w, "1 1 1;0 0; 1/1=abcd 2/1=ab 3/1")
}

// The wal writes nothing into what it was handed, whatever it is told later.
func TestP5_6_LaterCallsLeaveIt(t *testing.T) {
	w := opened(t, disk.New(), 64, false)
	b, shared := roomyBatch()
	was, all := bytes.Clone(shared[:cap(shared)]), say(b.Entries[:4])
	ok(t, w.Append(b), w.Append(entries(empty(2, 2), empty(2, 3), empty(2, 4))), w.Append(entries(command(3, 1, "xyz"), empty(3, 2))))
	w.Compact(2)
	ok(t, w.Append(marked(8, 8, empty(8, 9))), w.Append(entries(empty(9, 9))))
	if !bytes.Equal(shared[:cap(shared)], was) || say(b.Entries[:4]) != all {
		t.Errorf("what was handed in is changed: %s, %v", shared[:cap(shared)], b.Entries[:4])
	}
}

// scribbleView writes all over a view, entry by entry, and its spare room.
func scribbleView(v wal.View) {
	for i := range v.Entries[:cap(v.Entries)] {
		e := &v.Entries[:cap(v.Entries)][i]
		scribble(e.Data)
		*e = command(99, 99, "scribbled")
	}
}

func TestP5_6_ViewIsNewMemory(t *testing.T) {
	d := disk.New()
	w := opened(t, d, 64, false)
	b, _ := roomyBatch()
	ok(t, w.Append(b), w.Sync())
	for _, x := range []*wal.Wal{w, opened(t, load(t, d.Files()...), 64, false)} {
		const want = "1 1 1;0 0; 1/1=abcd 2/1=ab 3/1"
		one, two := x.View(), x.View()
		scribbleView(one)
		if s := shown(two); s != want {
			t.Errorf("another view is %s", s)
		}
		look(t, x, want)
		// What is written into the wal later isn't seen in a view.
		ok(t, x.Append(entries(command(2, 1, "wxyz"))))
		if s := shown(two); s != want {
			t.Errorf("a view is %s, behind a later Append", s)
		}
		look(t, x, "1 1 1;0 0; 1/2=wxyz")
		// Nor is what a caller writes into a view written down.
		scribbleView(two)
		ok(t, x.Append(entries(empty(2, 2))))
		look(t, x, "1 1 1;0 0; 1/2=wxyz 2/2")
	}
}

// Lists within one view: what is appended to one shows in no other.
func TestP5_6_ListsOfOneViewAreApart(t *testing.T) {
	d := disk.New()
	w := opened(t, d, 1000, false)
	ok(t, w.Append(entries(command(1, 1, ""), command(1, 2, "b"), command(1, 3, "ccc"), empty(1, 4), command(1, 5, "e"))), w.Sync())
	for _, x := range []*wal.Wal{w, opened(t, d, 1000, false)} {
		v := x.View()
		for i := range v.Entries {
			scribble(append(v.Entries[i].Data, "appended"...))
			if s := shown(v); i < 4 && s[len(s)-4:] != "/1=e" {
				t.Errorf("behind %d: %s", i, s)
			}
			scribble(v.Entries[i].Data)
		}
		_ = append(v.Entries, command(9, 9, "x"))
		look(t, x, "0 0 0;0 0; 1/1= 2/1=b 3/1=ccc 4/1 5/1=e")
	}
}

func TestP5_6_SegmentsIsNewMemory(t *testing.T) {
	_, w := three(t)
	one, two := w.Segments(), w.Segments()
	for i := range one[:cap(one)] {
		one[:cap(one)][i] = "x"
	}
	_ = append(two, "y")
	if say(two) != "[wal-00000001 wal-00000002 wal-00000003]" || say(w.Segments()) != say(two) {
		t.Errorf("%v, %v", two, w.Segments())
	}
	if n, e := w.Compact(5); n != 2 || e != api.OK || say(w.Segments()) != "[wal-00000003]" || say(two) != "[wal-00000001 wal-00000002 wal-00000003]" {
		t.Errorf("%d, %d: %v, %v", n, e, w.Segments(), two)
	}
}
