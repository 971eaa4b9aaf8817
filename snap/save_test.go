package snap_test

import (
	"fmt"
	"testing"

	"synod/api"
	"synod/disk"
	"synod/snap"
)

// junk is a file Temp that an earlier Save may have left, half of it durable.
func junk() api.File { return api.File{Name: snap.Temp, Data: []byte("junk"), Synced: 2} }

func TestP6_2_Save(t *testing.T) {
	for _, s := range []api.Snap{
		{Index: 1, Term: 1},
		{Index: 5, Term: 2, Data: []byte("ab")},
		{Index: 300, Term: 128, Data: []byte{0, 255}},
		{Index: 1, Term: api.MaxIndex, Data: []byte("x")},
		{Index: api.MaxIndex, Term: 1, Data: []byte("x")},
		{Index: api.MaxIndex, Term: api.MaxIndex, Data: make([]byte, api.MaxSnap)},
	} {
		for _, files := range [][]api.File{{}, {junk()}, {file("wal-00000001", []byte("w"))}, {junk(), file("a"), loose("b", []byte("b"))}} {
			d := load(t, files...)
			told(t, snap.Save(d, s), api.OK)
			var want []api.File
			for _, f := range files {
				if f.Name != snap.Temp {
					want = append(want, f)
				}
			}
			holds(t, d, append(want, place(s))...)
			tells(t, d, s, 0)
			up(t, d)
		}
	}
}

func TestP6_2_OneBehindTheOther(t *testing.T) {
	d := disk.New()
	for i, s := range []api.Snap{of(5, "five"), of(9, "nine"), of(7, "seven"), of(5, ""), of(1, "one")} {
		told(t, snap.Save(d, s), api.OK)
		switch i {
		case 0:
			tells(t, d, of(5, "five"), 0)
		default:
			tells(t, d, of(9, "nine"), 0)
		}
	}
	holds(t, d, place(of(1, "one")), place(of(5, "")), place(of(7, "seven")), place(of(9, "nine")))
	listed(t, d, 1, 5, 7, 9)
}

// An index that is there gets the new snapshot, whatever stood in its file.
func TestP6_2_IndexThatIsThere(t *testing.T) {
	other := api.Snap{Index: 5, Term: 1, Data: []byte("a longer one than the new")}
	for _, f := range []api.File{place(of(5, "old")), place(other), place(of(5, "new")), file(name(5)), file(name(5), []byte("spoilt")),
		loose(name(5), stored(other))} {
		d := load(t, f, place(of(4, "x")), place(of(6, "y")))
		told(t, snap.Save(d, of(5, "new")), api.OK)
		holds(t, d, place(of(4, "x")), place(of(5, "new")), place(of(6, "y")))
	}
}

// wrongSnap is a snapshot that Save refuses.
type wrongSnap struct {
	s api.Snap
	e api.Errno
}

func wrongSnaps() []wrongSnap {
	long := make([]byte, api.MaxSnap+1)
	return []wrongSnap{
		{api.Snap{}, api.ErrForm},
		{api.Snap{Data: []byte{}}, api.ErrForm},
		{api.Snap{Data: make([]byte, 0, 9)}, api.ErrForm},
		{api.Snap{Data: []byte{0}}, api.ErrRange},
		{api.Snap{Term: 1}, api.ErrRange},
		{api.Snap{Index: 1}, api.ErrRange},
		{api.Snap{Index: -1}, api.ErrRange},
		{api.Snap{Index: -1, Term: 1}, api.ErrRange},
		{api.Snap{Index: 1, Term: -1}, api.ErrRange},
		{api.Snap{Index: api.MaxIndex + 1, Term: 1}, api.ErrRange},
		{api.Snap{Index: 1, Term: api.MaxIndex + 1}, api.ErrRange},
		{api.Snap{Index: 1, Term: 1, Data: long}, api.ErrLong},
		{api.Snap{Index: api.MaxIndex, Term: api.MaxIndex, Data: long}, api.ErrLong},
		{api.Snap{Index: 0, Term: 1, Data: long}, api.ErrRange},
		{api.Snap{Index: 1, Term: 0, Data: long}, api.ErrRange},
		{api.Snap{Data: long}, api.ErrRange},
	}
}

// What a snapshot has wrong comes ahead of all that the disk has, and nothing is done: Temp stays, and no write is counted.
func TestP6_2_WrongSnap(t *testing.T) {
	for _, x := range wrongSnaps() {
		d := load(t, junk(), place(of(5, "ab")))
		told(t, snap.Save(d, x.s), x.e)
		holds(t, d, junk(), place(of(5, "ab")))
		up(t, d)
		d.Arm(1)
		told(t, snap.Save(d, x.s), x.e)
		if d.Down() {
			t.Errorf("a Save that answers %d has written", x.e)
		}
		told(t, d.Create("a"), api.ErrDown)
		told(t, snap.Save(d, x.s), x.e)
		holds(t, d, junk(), place(of(5, "ab")))
	}
}

func TestP6_2_DiskIsDown(t *testing.T) {
	for _, files := range [][]api.File{{}, {junk()}, {place(of(5, "ab"))}, {junk(), place(of(5, "ab")), file("a")}} {
		d := load(t, files...)
		d.Arm(1)
		told(t, d.Create("x"), api.ErrDown)
		told(t, snap.Save(d, of(5, "cd")), api.ErrDown)
		told(t, snap.Save(d, of(6, "cd")), api.ErrDown)
		holds(t, d, files...)
		d.Crash(0)
		told(t, snap.Save(d, of(6, "cd")), api.OK)
		tells(t, d, of(6, "cd"), 0)
	}
}

// Each of Save's writes fails: what was done ahead of it stays, and nothing else was done. So the order of the writes shows.
func TestP6_2_EachWriteFails(t *testing.T) {
	s := of(6, "abcdef")
	b := stored(s)
	others := []api.File{place(of(5, "ab")), loose("wal-00000001", []byte("w"))}
	left := [][]api.File{ // behind the failing of each write
		{junk()},
		{},
		{loose(snap.Temp, b[:len(b)/2])},
		{loose(snap.Temp, b)},
		{file(snap.Temp, b)},
		{place(s)},
	}
	for _, hasTemp := range []bool{true, false} {
		for i, want := range left {
			files := others
			n := i // without Temp nothing is removed: one write fewer
			if hasTemp {
				files, n = append(files, junk()), i+1
			}
			if n == 0 {
				continue
			}
			d := load(t, files...)
			d.Arm(n)
			e := api.ErrDown
			if i == len(left)-1 {
				e = api.OK
			}
			told(t, snap.Save(d, s), e)
			if d.Down() != (e != api.OK) {
				t.Errorf("%d: Down is %t", i, d.Down())
			}
			holds(t, d, append(want, others...)...)
			told(t, d.Create("a"), api.ErrDown) // the armed one: down, or just now
		}
	}
}

// manyFiles is n empty files beside those that are told.
func manyFiles(n int, files ...api.File) []api.File {
	for i := range n {
		files = append(files, file(fmt.Sprint("f", i)))
	}
	return files
}

func TestP6_2_TooManyFiles(t *testing.T) {
	// One more fits, and none behind it: but in the place of Temp.
	d := load(t, manyFiles(api.MaxFiles-1)...)
	told(t, snap.Save(d, of(5, "ab")), api.OK)
	told(t, snap.Save(d, of(6, "cd")), api.ErrFull)
	told(t, snap.Save(d, of(5, "cd")), api.ErrFull)
	holds(t, d, manyFiles(api.MaxFiles-1, place(of(5, "ab")))...)
	tells(t, d, of(5, "ab"), 0)
	d = load(t, manyFiles(api.MaxFiles-1, junk())...)
	told(t, snap.Save(d, of(6, "cd")), api.OK)
	holds(t, d, manyFiles(api.MaxFiles-1, place(of(6, "cd")))...)
}

// A disk without room for the frame: Temp stays, new and empty.
func TestP6_2_TooManyBytes(t *testing.T) {
	s := of(6, "abcdef")
	room := len(stored(s))
	for _, hasTemp := range []bool{true, false} {
		for _, over := range []int{0, 1} {
			big := file("big", make([]byte, api.MaxDisk-room+over))
			files := []api.File{big}
			if hasTemp && over == 0 {
				files = append(files, file(snap.Temp, make([]byte, room))) // it goes first, and so makes room
			}
			if hasTemp && over == 1 {
				files = append(files, file(snap.Temp))
			}
			d := load(t, files...)
			if over == 0 {
				told(t, snap.Save(d, s), api.OK)
				holds(t, d, big, place(s))
				continue
			}
			told(t, snap.Save(d, s), api.ErrFull)
			holds(t, d, big, file(snap.Temp))
			none(t, d)
			ok(t, d.Cut("big", 0))
			told(t, snap.Save(d, s), api.OK)
			tells(t, d, s, 0)
		}
	}
}
