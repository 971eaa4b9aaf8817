package snap_test

import (
	"math"
	"testing"

	"synod/api"
	"synod/disk"
	"synod/snap"
)

// five is the files of five snapshots, of which some aren't whole.
func five() []api.File {
	return []api.File{place(of(2, "two")), file(name(3)), place(of(10, "ten")), file(name(400), []byte("spoilt")), place(of(api.MaxIndex, "most"))}
}

// beside is files that Keep leaves alone.
func beside() []api.File {
	return []api.File{file("a"), file("snap-1"), loose("wal-00000001", []byte("w")), file("snap-0000000000000000000"), file("zz")}
}

func TestP6_4_Keep(t *testing.T) {
	for _, hasTemp := range []bool{false, true} {
		for n := 1; n <= 8; n++ {
			files, removed := append(five(), beside()...), max(0, 5-n)
			want := append(five()[removed:], beside()...)
			if hasTemp {
				files, removed = append(files, junk()), removed+1
			}
			d := load(t, files...)
			kept(t, d, n, removed, api.OK)
			holds(t, d, want...)
			kept(t, d, n, 0, api.OK) // a second one has nothing to do
			holds(t, d, want...)
			up(t, d)
		}
	}
}

func TestP6_4_OneBehindTheOther(t *testing.T) {
	d := load(t, append(five(), junk())...)
	kept(t, d, 4, 2, api.OK)
	kept(t, d, 3, 1, api.OK)
	listed(t, d, 10, 400, api.MaxIndex)
	kept(t, d, 5, 0, api.OK)
	kept(t, d, 1, 2, api.OK)
	listed(t, d, api.MaxIndex)
	tells(t, d, of(api.MaxIndex, "most"), 0)
	ok(t, snap.Save(d, of(7, "x")))
	kept(t, d, 1, 1, api.OK) // the new one has the lesser index
	listed(t, d, api.MaxIndex)
}

func TestP6_4_FewFiles(t *testing.T) {
	for _, n := range []int{1, 2, api.MaxFiles, math.MaxInt} {
		d := disk.New()
		kept(t, d, n, 0, api.OK)
		d = load(t, beside()...)
		kept(t, d, n, 0, api.OK)
		holds(t, d, beside()...)
		d = load(t, junk())
		kept(t, d, n, 1, api.OK)
		holds(t, d)
		d = load(t, place(of(5, "ab")))
		kept(t, d, n, 0, api.OK)
		holds(t, d, place(of(5, "ab")))
		d = load(t, place(of(5, "ab")), junk())
		kept(t, d, n, 1, api.OK)
		holds(t, d, place(of(5, "ab")))
	}
	// As many as a disk may have.
	for _, n := range []int{1, 100, api.MaxFiles - 1, api.MaxFiles} {
		d := disk.New()
		for i := range api.MaxFiles {
			ok(t, d.Create(name(i+1)))
		}
		kept(t, d, n, api.MaxFiles-n, api.OK)
		if l := snap.List(d); len(l) != n || l[0] != api.MaxFiles-n+1 {
			t.Errorf("Keep(%d) leaves %d", n, l)
		}
	}
}

// ErrRange comes ahead of all that the disk has, and nothing is done.
func TestP6_4_WrongKeep(t *testing.T) {
	for _, n := range []int{0, -1, -5, math.MinInt, math.MinInt + 1} {
		files := append(five(), junk())
		d := load(t, files...)
		kept(t, d, n, 0, api.ErrRange)
		d.Arm(1)
		kept(t, d, n, 0, api.ErrRange)
		if d.Down() {
			t.Errorf("Keep(%d) has written", n)
		}
		told(t, d.Create("a"), api.ErrDown)
		kept(t, d, n, 0, api.ErrRange)
		holds(t, d, files...)
		kept(t, disk.New(), n, 0, api.ErrRange)
	}
}

// Each of Keep's writes fails: Temp goes first, then the snapshots from the least index on; what is gone stays so.
func TestP6_4_EachWriteFails(t *testing.T) {
	for _, hasTemp := range []bool{false, true} {
		for n := 1; n <= 5; n++ {
			all := append(five(), beside()...)
			writes := 5 - n
			if hasTemp {
				all, writes = append([]api.File{junk()}, all...), writes+1
			}
			for fails := 1; fails <= writes+1; fails++ {
				d := load(t, all...)
				d.Arm(fails)
				if fails > writes {
					kept(t, d, n, writes, api.OK)
				} else {
					kept(t, d, n, 0, api.ErrDown)
				}
				if d.Down() != (fails <= writes) {
					t.Errorf("Keep(%d), %d fails: Down is %t", n, fails, d.Down())
				}
				holds(t, d, all[fails-1:]...)
				told(t, d.Create("b"), api.ErrDown)
				// Behind a crash it goes on.
				d.Crash(0)
				kept(t, d, n, writes-fails+1, api.OK)
				if l := snap.List(d); len(l) != n || d.Has(snap.Temp) {
					t.Errorf("Keep(%d), %d fails: %d", n, fails, l)
				}
			}
		}
	}
}

// A disk that is down tells so only where there is something to remove.
func TestP6_4_DiskIsDown(t *testing.T) {
	for _, x := range []struct {
		files []api.File
		n     int
		e     api.Errno
	}{
		{nil, 1, api.OK},
		{beside(), 1, api.OK},
		{five(), 5, api.OK},
		{five(), 6, api.OK},
		{five(), 4, api.ErrDown},
		{five(), 1, api.ErrDown},
		{append(five(), junk()), 5, api.ErrDown},
		{[]api.File{junk()}, 1, api.ErrDown},
	} {
		d := load(t, x.files...)
		d.Arm(1)
		told(t, d.Create("b"), api.ErrDown)
		kept(t, d, x.n, 0, x.e)
		holds(t, d, x.files...)
	}
}
