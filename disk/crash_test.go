package disk_test

import (
	"math"
	"testing"

	"synod/api"
	"synod/disk"
)

// write is a write, by its name and what it does.
type write struct {
	name string
	do   func(d *disk.Disk) api.Errno
}

// rightWrites are writes of each kind that have no error of their own on a disk of the files a and b.
func rightWrites() []write {
	return []write{
		{"Create", func(d *disk.Disk) api.Errno { return d.Create("c") }},
		{"Append", func(d *disk.Disk) api.Errno { return d.Append("a", []byte("x")) }},
		{"Append of none", func(d *disk.Disk) api.Errno { return d.Append("a", nil) }},
		{"Sync", func(d *disk.Disk) api.Errno { return d.Sync("a") }},
		{"Cut", func(d *disk.Disk) api.Errno { return d.Cut("a", 1) }},
		{"Cut at 0", func(d *disk.Disk) api.Errno { return d.Cut("a", 0) }},
		{"Rename", func(d *disk.Disk) api.Errno { return d.Rename("a", "c") }},
		{"Rename onto another", func(d *disk.Disk) api.Errno { return d.Rename("a", "b") }},
		{"Rename to itself", func(d *disk.Disk) api.Errno { return d.Rename("a", "a") }},
		{"Remove", func(d *disk.Disk) api.Errno { return d.Remove("a") }},
	}
}

// wrongWrite is a write with an error of its own on such a disk.
type wrongWrite struct {
	write
	e api.Errno
}

func wrongWrites() []wrongWrite {
	return []wrongWrite{
		{write{"Create of no name", func(d *disk.Disk) api.Errno { return d.Create("A") }}, api.ErrName},
		{write{"Create again", func(d *disk.Disk) api.Errno { return d.Create("a") }}, api.ErrThere},
		{write{"Append", func(d *disk.Disk) api.Errno { return d.Append("c", []byte("x")) }}, api.ErrNone},
		{write{"Append of too much", func(d *disk.Disk) api.Errno { return d.Append("a", make([]byte, api.MaxDisk)) }}, api.ErrFull},
		{write{"Sync", func(d *disk.Disk) api.Errno { return d.Sync("c") }}, api.ErrNone},
		{write{"Cut", func(d *disk.Disk) api.Errno { return d.Cut("c", 0) }}, api.ErrNone},
		{write{"Cut below 0", func(d *disk.Disk) api.Errno { return d.Cut("a", -1) }}, api.ErrRange},
		{write{"Cut beyond", func(d *disk.Disk) api.Errno { return d.Cut("a", 4) }}, api.ErrRange},
		{write{"Rename", func(d *disk.Disk) api.Errno { return d.Rename("c", "a") }}, api.ErrNone},
		{write{"Rename to no name", func(d *disk.Disk) api.Errno { return d.Rename("a", "A") }}, api.ErrName},
		{write{"Remove", func(d *disk.Disk) api.Errno { return d.Remove("c") }}, api.ErrNone},
	}
}

// two is a disk of the files a and b, b being the one appended to last.
func two(t *testing.T) *disk.Disk {
	t.Helper()
	d := load(t, file("a", "1", "23"), file("b", "45", "6"))
	ok(t, d.Append("b", []byte("7")))
	return d
}

const twoShown = "a:1|23 b:45|67"

func TestP4_4_EachWriteFails(t *testing.T) {
	for _, x := range rightWrites() {
		d := two(t)
		if e := x.do(d); e != api.OK {
			t.Errorf("%s, not armed: %d", x.name, e)
		}
		d = two(t)
		d.Arm(1)
		if d.Down() {
			t.Errorf("%s: down ahead of the write", x.name)
		}
		if e := x.do(d); e != api.ErrDown || !d.Down() || shown(d) != twoShown {
			t.Errorf("%s: %d, %s", x.name, e, state(d))
		}
	}
}

// But for an Append the one appended to last is what it was.
func TestP4_4_LastBehindAFailure(t *testing.T) {
	for _, x := range rightWrites() {
		d := two(t)
		d.Arm(1)
		told(t, x.do(d), api.ErrDown)
		d.Crash(9)
		want := "a:1| b:4567|"
		if x.name == "Append" || x.name == "Append of none" {
			want = "a:123| b:45|"
		}
		if s := shown(d); s != want {
			t.Errorf("%s: %s", x.name, s)
		}
	}
}

func TestP4_4_WrongWritesAreNotCounted(t *testing.T) {
	for _, n := range []int{1, 2, 3} {
		d := two(t)
		d.Arm(n)
		for k := range n {
			for _, x := range wrongWrites() {
				if e := x.do(d); e != x.e || d.Down() {
					t.Errorf("armed with %d, %s: %d", n, x.name, e)
				}
			}
			want := api.OK
			if k == n-1 {
				want = api.ErrDown
			}
			told(t, d.Sync("b"), want)
		}
		if !d.Down() {
			t.Errorf("armed with %d: it isn't down", n)
		}
	}
	// Each error of its own goes ahead of the failure; too many files are one.
	d, _ := disk.Load(many(api.MaxFiles))
	d.Arm(1)
	told(t, d.Create("x"), api.ErrFull)
	told(t, d.Remove("f0"), api.ErrDown)
}

func TestP4_4_DownGoesAheadOfAll(t *testing.T) {
	d := two(t)
	d.Arm(1)
	told(t, d.Sync("b"), api.ErrDown)
	for range 2 {
		for _, x := range rightWrites() {
			told(t, x.do(d), api.ErrDown)
		}
		for _, x := range wrongWrites() {
			told(t, x.do(d), api.ErrDown)
		}
	}
	look(t, d, twoShown)
	// An Append that is refused while it is down lays nothing and isn't the last one.
	d.Crash(9)
	look(t, d, "a:1| b:4567|")
}

func TestP4_4_ArmedAppend(t *testing.T) {
	for b, half := range map[string]string{"": "", "x": "", "xy": "x", "xyz": "x", "vwxyz": "vw", "uvwxyz": "uvw"} {
		for keep := range 5 {
			d := two(t)
			d.Arm(1)
			told(t, d.Append("a", []byte(b)), api.ErrDown)
			look(t, d, "a:1|23"+half+" b:45|67")
			d.Crash(keep)
			look(t, d, "a:1"+("23" + half)[:min(keep, 2+len(half))]+"| b:45|")
		}
	}
	// The room is asked for the whole of it.
	d := disk.New()
	ok(t, d.Create("a"))
	d.Arm(1)
	told(t, d.Append("a", make([]byte, api.MaxDisk+1)), api.ErrFull)
	told(t, d.Append("a", make([]byte, api.MaxDisk)), api.ErrDown)
	if d.Size() != api.MaxDisk/2 {
		t.Errorf("%d bytes", d.Size())
	}
}

// fails tells at which of n writes the disk goes down; 0: at none.
func fails(t *testing.T, d *disk.Disk, n int) int {
	t.Helper()
	writes := rightWrites()
	for i := range n {
		// Those that leave the files as they are may be done again and again.
		x := writes[[]int{2, 3, 8}[i%3]]
		if e := x.do(d); e == api.ErrDown {
			return i + 1
		} else if e != api.OK {
			t.Fatalf("%s: %d", x.name, e)
		}
	}
	return 0
}

func TestP4_4_Arm(t *testing.T) {
	for _, n := range []int{1, 2, 3, 4, 5, 10, 40} {
		d := two(t)
		d.Arm(n)
		if at := fails(t, d, 50); at != n || !d.Down() {
			t.Errorf("armed with %d: it fails at %d", n, at)
		}
	}
	for _, n := range []int{0, -1, -2, math.MinInt, math.MaxInt, math.MinInt + 1, api.MaxIndex} {
		d := two(t)
		d.Arm(n)
		if at := fails(t, d, 50); at != 0 || d.Down() {
			t.Errorf("armed with %d: it fails at %d", n, at)
		}
	}
}

func TestP4_4_ArmedAgain(t *testing.T) {
	for _, x := range []struct{ n, writes, again, want int }{
		{1, 0, 2, 2},
		{2, 0, 1, 1},
		{3, 2, 3, 3},
		{3, 1, 1, 1},
		{5, 4, 7, 7},
		{1, 0, 0, 0},
		{1, 0, -1, 0},
		{2, 1, 0, 0},
		{2, 1, math.MinInt, 0},
		{0, 1, 2, 2},
		{-5, 0, 1, 1},
		{-5, 3, 4, 4},
	} {
		d := two(t)
		d.Arm(x.n)
		if at := fails(t, d, x.writes); at != 0 {
			t.Fatalf("%v: it fails at %d", x, at)
		}
		d.Arm(x.again)
		if at := fails(t, d, 20); at != x.want {
			t.Errorf("%v: it fails at %d", x, at)
		}
	}
}

func TestP4_4_ArmedWhileDown(t *testing.T) {
	for _, n := range []int{math.MinInt, -1, 0, 1, 2, 5} {
		d := two(t)
		d.Arm(1)
		told(t, d.Sync("b"), api.ErrDown)
		d.Arm(n)
		for range 10 {
			told(t, d.Append("a", []byte("xy")), api.ErrDown)
			told(t, d.Sync("b"), api.ErrDown)
		}
		if !d.Down() {
			t.Errorf("Arm(%d) brings it up", n)
		}
		look(t, d, twoShown)
		d.Crash(0)
		if at := fails(t, d, 20); at != 0 || d.Down() {
			t.Errorf("armed with %d while down: behind the crash it fails at %d", n, at)
		}
	}
}

// Behind the write that failed, and a crash, the disk may be armed again.
func TestP4_4_AgainBehindACrash(t *testing.T) {
	d := two(t)
	for _, n := range []int{1, 3, 2} {
		d.Arm(n)
		if at := fails(t, d, 20); at != n || !d.Down() {
			t.Errorf("armed with %d: it fails at %d", n, at)
		}
		d.Crash(0)
		if d.Down() {
			t.Error("it is down")
		}
	}
}

func TestP4_5_Crash(t *testing.T) {
	for _, x := range []struct {
		keep int
		want string
	}{
		{math.MinInt, "a:1| b:45|"},
		{-1, "a:1| b:45|"},
		{0, "a:1| b:45|"},
		{1, "a:1| b:456|"},
		{2, "a:1| b:4567|"},
		{3, "a:1| b:4567|"},
		{100, "a:1| b:4567|"},
		{math.MaxInt - 1, "a:1| b:4567|"},
		{math.MaxInt, "a:1| b:4567|"},
	} {
		d := two(t)
		d.Crash(x.keep)
		if s := shown(d); s != x.want || d.Down() {
			t.Errorf("Crash(%d): %s", x.keep, s)
		}
	}
}

// What is kept begins behind what is durable, of whatever calls it came.
func TestP4_5_WhatIsKept(t *testing.T) {
	d := disk.New()
	ok(t, d.Create("a"), d.Append("a", []byte("12")), d.Append("a", []byte("34")), d.Sync("a"))
	ok(t, d.Append("a", []byte("56")), d.Append("a", []byte("78")))
	d.Crash(3)
	look(t, d, "a:1234567|")
	// A file that was appended to earlier, and is again.
	d = two(t)
	ok(t, d.Append("a", []byte("8")))
	d.Crash(3)
	look(t, d, "a:1238| b:45|")
	// All of it was synced: nothing is left to be kept.
	d = two(t)
	ok(t, d.Sync("b"))
	d.Crash(9)
	look(t, d, "a:1| b:4567|")
	// Cut behind what is durable, and within it.
	d = two(t)
	ok(t, d.Cut("b", 3))
	d.Crash(9)
	look(t, d, "a:1| b:456|")
	d = two(t)
	ok(t, d.Cut("b", 1))
	d.Crash(9)
	look(t, d, "a:1| b:4|")
	// An empty disk.
	d = disk.New()
	d.Crash(5)
	look(t, d, "")
}

func TestP4_5_CrashIsUpAndNotArmed(t *testing.T) {
	for _, keep := range []int{-1, 0, 1, 9} {
		// Armed, and not down yet.
		d := two(t)
		d.Arm(2)
		ok(t, d.Sync("a"))
		d.Crash(keep)
		if at := fails(t, d, 20); at != 0 || d.Down() {
			t.Errorf("Crash(%d): it fails at %d", keep, at)
		}
		// Down.
		d = two(t)
		d.Arm(1)
		told(t, d.Sync("a"), api.ErrDown)
		d.Crash(keep)
		if d.Down() {
			t.Errorf("Crash(%d): it is down", keep)
		}
		if at := fails(t, d, 20); at != 0 || d.Down() {
			t.Errorf("Crash(%d): it fails at %d", keep, at)
		}
	}
}

// Behind a crash the next Append tells which one is the last, whichever it was ahead of it.
func TestP4_5_LastBehindACrash(t *testing.T) {
	d := two(t)
	d.Crash(1)
	look(t, d, "a:1| b:456|")
	ok(t, d.Append("b", []byte("xy")), d.Append("a", []byte("z")))
	d.Crash(9)
	look(t, d, "a:1z| b:456|")
	ok(t, d.Append("b", []byte("xy")))
	d.Crash(1)
	look(t, d, "a:1z| b:456x|")
	ok(t, d.Append("a", []byte("uv")), d.Remove("a"), d.Rename("b", "a"))
	d.Crash(9)
	look(t, d, "a:456x|")
}
