package snap_test

import (
	"fmt"
	"math/rand/v2"
	"testing"

	"synod/api"
	"synod/disk"
	"synod/snap"
)

// start is files that a Save of the index 5 may find.
type start struct {
	name  string
	files []api.File
}

// starts are durable ones: what a crash takes away of them is none of Save's doing.
func starts() []start {
	s := of(5, "the new one")
	old := place(of(5, "old"))
	torn := file(name(5), stored(s)[:9])
	l := []start{
		{"nothing", nil},
		{"a lesser one", []api.File{place(of(4, "four"))}},
		{"several lesser ones", []api.File{place(of(1, "one")), place(of(4, "four")), file(name(3))}},
		{"a greater one", []api.File{place(of(6, "six")), place(of(4, "four"))}},
		{"a greater one that isn't whole", []api.File{file(name(6), []byte("six")), place(of(4, "four"))}},
		{"one in its place", []api.File{old}},
		{"one in its place and a lesser one", []api.File{old, place(of(4, "four"))}},
		{"one in its place, a greater one", []api.File{old, place(of(7, "seven")), file(name(6))}},
		{"one in its place that isn't whole", []api.File{torn}},
		{"one in its place that isn't whole, and a lesser one", []api.File{torn, place(of(4, "four"))}},
		{"the same one", []api.File{place(s)}},
		{"a wal", []api.File{file("wal-00000001", []byte("wal")), place(of(4, "four"))}},
	}
	for _, x := range l[:len(l):len(l)] {
		for i, temp := range []api.File{file(snap.Temp), file(snap.Temp, []byte("junk")), file(snap.Temp, stored(s)), file(snap.Temp, stored(of(9, "nine")))} {
			l = append(l, start{fmt.Sprint(x.name, ", and Temp ", i), append(x.files[:len(x.files):len(x.files)], temp)})
		}
	}
	return l
}

// hasGreater tells whether a greater one than that of the index 5 is whole.
func hasGreater(files []api.File) bool {
	for _, f := range files {
		if i, ok := snap.Index(f.Name); ok && i > 5 {
			_, _, e := loadOf(f)
			if e == api.OK {
				return true
			}
		}
	}
	return false
}

func loadOf(files ...api.File) (api.Snap, int, api.Errno) {
	d, _ := disk.Load(files)
	return snap.Load(d)
}

// newest is what Load tells of the snapshot alone: a write may take away a file that was passed over.
func newest(d *disk.Disk) string {
	s, _, e := snap.Load(d)
	return answer(s, 0, e)
}

// Each write fails, and behind it a crash keeps any number of bytes.
func TestP6_6_AllOrNothing(t *testing.T) {
	s := of(5, "the new one")
	for _, x := range starts() {
		for fails := 0; fails <= 6; fails++ {
			for keep := -1; keep <= len(stored(s))+1; keep++ {
				d := load(t, x.files...)
				was := newest(d)
				d.Arm(fails)
				e := snap.Save(d, s)
				ahead := newest(d)
				d.Crash(keep)
				have := newest(d)
				if have != ahead {
					t.Fatalf("%s, write %d fails, %d kept: a crash makes %s of %s", x.name, fails, keep, have, ahead)
				}
				if have != was && have != answer(s, 0, api.OK) {
					t.Fatalf("%s, write %d fails, %d kept: %s; was %s", x.name, fails, keep, have, was)
				}
				if e == api.OK && !hasGreater(x.files) && have != answer(s, 0, api.OK) || e != api.OK && have != was {
					t.Fatalf("%s, write %d fails, %d kept: Save is %d, and Load %s", x.name, fails, keep, e, have)
				}
			}
		}
	}
}

// A crash that comes behind a write that was done: Save's writes one by one, as the chapter tells them, up to each of them.
func TestP6_6_CrashBehindEachWrite(t *testing.T) {
	s := of(5, "the new one")
	b := stored(s)
	for _, x := range starts() {
		for done := range 6 {
			for keep := range len(b) + 2 {
				d := load(t, x.files...)
				was := newest(d)
				steps(d, s, done)
				d.Crash(keep)
				if have := newest(d); have != was && (done < 5 || have != answer(s, 0, api.OK)) {
					t.Fatalf("%s, %d writes, %d kept: %s; was %s", x.name, done, keep, have, was)
				}
				// Whatever it left, the next Save is done.
				ok(t, snap.Save(d, of(9, "later")))
				tells(t, d, of(9, "later"), 0)
				if d.Has(snap.Temp) {
					t.Fatalf("%s, %d writes: Temp is left", x.name, done)
				}
			}
		}
	}
}

// steps does some of the writes of a Save, from the first one on: it tells the error of the last one.
func steps(d *disk.Disk, s api.Snap, n int) api.Errno {
	e := api.OK
	if n > 0 && d.Has(snap.Temp) {
		e = d.Remove(snap.Temp)
	}
	if n > 1 && e == api.OK {
		e = d.Create(snap.Temp)
	}
	if n > 2 && e == api.OK {
		e = d.Append(snap.Temp, stored(s))
	}
	if n > 3 && e == api.OK {
		e = d.Sync(snap.Temp)
	}
	if n > 4 && e == api.OK {
		e = d.Rename(snap.Temp, name(s.Index))
	}
	return e
}

// Another file that is written behind Save changes nothing of what is durable.
func TestP6_6_DurableBehindOK(t *testing.T) {
	for keep := range 60 {
		d := load(t, place(of(4, "four")))
		ok(t, snap.Save(d, of(5, "five")))
		ok(t, d.Create("wal-00000001"), d.Append("wal-00000001", []byte("wal")))
		d.Crash(keep)
		tells(t, d, of(5, "five"), 0)
	}
}

// A snapshot that isn't Load's answer, being less new, is there behind OK all the same.
func TestP6_6_LesserIndex(t *testing.T) {
	d := load(t, place(of(6, "six")))
	ok(t, snap.Save(d, of(5, "five")))
	d.Crash(0)
	tells(t, d, of(6, "six"), 0)
	ok(t, d.Cut(name(6), 3))
	tells(t, d, of(5, "five"), 1)
}

// anyDisk is a disk of some snapshots' files, whole or not, and of others.
func anyDisk(t *testing.T, pick *rand.Rand) *disk.Disk {
	t.Helper()
	d := disk.New()
	for range pick.IntN(6) {
		s := of(1+pick.IntN(9), fmt.Sprint(pick.IntN(1000)))
		ok(t, snap.Save(d, s))
		if pick.IntN(2) == 0 {
			ok(t, d.Cut(name(s.Index), pick.IntN(len(stored(s)))))
		}
	}
	if pick.IntN(2) == 0 {
		ok(t, d.Create(snap.Temp), d.Append(snap.Temp, stored(of(10, "ten"))))
	}
	return d
}

func TestP6_7_Newest(t *testing.T) {
	var found, missed, passed int
	for seed := range uint64(2000) {
		d := anyDisk(t, rand.New(rand.NewPCG(67, seed)))
		l := snap.List(d)
		s, n, e := snap.Load(d)
		at := -1 // the place of Load's index
		for i, index := range l {
			if i > 0 && index <= l[i-1] {
				t.Fatalf("%d: the list is %d", seed, l)
			}
			_, _, alone := loadOf(oneFile(t, d, index))
			if alone == api.OK {
				at = i
			}
		}
		switch {
		case at < 0 && (e != api.ErrNone || n != 0):
			t.Fatalf("%d: nothing is whole, and Load is %s", seed, answer(s, n, e))
		case at < 0:
			missed++
		case e != api.OK || s.Index != l[at] || n != len(l)-1-at:
			t.Fatalf("%d: the newest is %d of %d, and Load is %s", seed, l[at], l, answer(s, n, e))
		default:
			found++
			passed += n
		}
	}
	if found < 500 || missed < 300 || passed < 300 {
		t.Errorf("too few: %d, %d, %d", found, missed, passed)
	}
}

// oneFile is a snapshot's file of a disk.
func oneFile(t *testing.T, d *disk.Disk, index int) api.File {
	t.Helper()
	b, e := d.Read(name(index))
	ok(t, e)
	return file(name(index), b)
}

func TestP6_7_KeepLeavesTheGreatest(t *testing.T) {
	same := 0
	for seed := range uint64(2000) {
		pick := rand.New(rand.NewPCG(68, seed))
		d := anyDisk(t, pick)
		l, was, hadTemp := snap.List(d), loaded(d), d.Has(snap.Temp)
		_, passed, e := snap.Load(d)
		n := 1 + pick.IntN(7)
		want := max(0, len(l)-n)
		if hadTemp {
			want++
		}
		kept(t, d, n, want, api.OK)
		listed(t, d, l[max(0, len(l)-n):]...)
		if d.Has(snap.Temp) {
			t.Fatalf("%d: Temp is left", seed)
		}
		if e == api.OK && passed < n && loaded(d) != was {
			t.Fatalf("%d: behind Keep(%d) Load is %s; was %s", seed, n, loaded(d), was)
		}
		kept(t, d, 1, max(0, min(n, len(l))-1), api.OK)
		if e == api.OK && passed == 0 {
			same++
			if loaded(d) != was {
				t.Fatalf("%d: behind Keep(1) Load is %s; was %s", seed, loaded(d), was)
			}
		}
	}
	if same < 300 {
		t.Errorf("too few: %d", same)
	}
}
