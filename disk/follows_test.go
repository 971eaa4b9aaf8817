package disk_test

import (
	"math"
	"math/rand/v2"
	"strings"
	"testing"

	"synod/api"
	"synod/disk"
)

// busy makes calls of all kinds on a disk.
func busy(pick *rand.Rand, d *disk.Disk, calls int) {
	for range calls {
		anyCall(pick)(d)
	}
}

// anyDisk is one that many calls were made on.
func anyDisk(pick *rand.Rand) *disk.Disk {
	d, _ := disk.Load(anyFiles(pick))
	busy(pick, d, pick.IntN(60))
	return d
}

// keeps are numbers to crash with.
func keeps() []int { return []int{math.MinInt, -1, 0, 1, 2, 3, 8, 1000, math.MaxInt} }

func TestP4_7_Durable(t *testing.T) {
	for seed := range uint64(300) {
		for _, keep := range keeps() {
			d := anyDisk(rand.New(rand.NewPCG(7, seed)))
			before := d.Files()
			d.Crash(keep)
			after := d.Files()
			if len(before) != len(after) {
				t.Fatalf("%v, then %v", before, after)
			}
			more := 0
			for i, f := range before {
				g := after[i]
				if g.Name != f.Name || g.Synced != len(g.Data) || !strings.HasPrefix(string(g.Data), string(f.Data[:f.Synced])) ||
					!strings.HasPrefix(string(f.Data), string(g.Data)) || len(g.Data)-f.Synced > max(keep, 0) {
					t.Fatalf("Crash(%d): %v, then %v", keep, f, g)
				}
				if len(g.Data) > f.Synced {
					more++
				}
			}
			if more > 1 {
				t.Fatalf("Crash(%d) keeps bytes of %d files", keep, more)
			}
			for _, second := range keeps() {
				d.Crash(second)
				if say(d.Files()) != say(after) || d.Down() {
					t.Fatalf("Crash(%d), Crash(%d): %v; not %v", keep, second, d.Files(), after)
				}
			}
		}
	}
}

func TestP4_7_GreatKeep(t *testing.T) {
	pick := rand.New(rand.NewPCG(7, 7))
	for range 300 {
		d := anyDisk(pick)
		d.Crash(0)
		ok(t, d.Create("last"), d.Append("last", []byte("all of")))
		busy(pick, d, pick.IntN(10))
		if d.Down() {
			d.Crash(0)
		}
		d.Arm(0)
		ok(t, d.Append("last", make([]byte, pick.IntN(100))))
		have, _ := d.Read("last")
		d.Crash(1000)
		if left, _ := d.Read("last"); string(left) != string(have) {
			t.Fatalf("%d bytes of %d", len(left), len(have))
		}
	}
}

func TestP4_8_Loaded(t *testing.T) {
	for seed := range uint64(500) {
		d := anyDisk(rand.New(rand.NewPCG(8, seed)))
		l, e := disk.Load(d.Files())
		if e != api.OK {
			t.Fatalf("Load: %d", e)
		}
		if l.Down() {
			t.Fatal("it is down")
		}
		sameReads(t, l, d)
		d.Crash(0)
		for _, keep := range keeps() {
			again, _ := disk.Load(l.Files())
			again.Crash(keep)
			sameReads(t, again, d)
		}
	}
}

// sameReads: all reads answer the same on both.
func sameReads(t *testing.T, d, e *disk.Disk) {
	t.Helper()
	if say(d.Files()) != say(e.Files()) || say(d.List()) != say(e.List()) || d.Size() != e.Size() {
		t.Fatalf("%s; %s", state(d), state(e))
	}
	for _, name := range names {
		b, f := d.Read(name)
		c, g := e.Read(name)
		if string(b) != string(c) || f != g || d.Has(name) != e.Has(name) {
			t.Fatalf("%s: %s, %d; %s, %d", name, b, f, c, g)
		}
	}
}

// twins are two disks that the same calls were made on.
func twins(seed uint64) (*disk.Disk, *disk.Disk) {
	return anyDisk(rand.New(rand.NewPCG(9, seed))), anyDisk(rand.New(rand.NewPCG(9, seed)))
}

// Wrong writes, made on one of two disks, are not seen by any later call.
func TestP4_9_Refused(t *testing.T) {
	tooMuch := make([]byte, api.MaxDisk+1)
	for seed := range uint64(400) {
		d, twin := twins(seed)
		later := rand.New(rand.NewPCG(seed, 9))
		for range 40 {
			for _, name := range []string{"", "A", "none"} {
				d.Append(name, []byte("x"))
				d.Sync(name)
				d.Cut(name, 0)
				d.Rename(name, "a")
				d.Remove(name)
			}
			d.Create("A")
			d.Create("")
			for _, name := range d.List() {
				d.Create(name)
				d.Rename(name, "A")
				d.Cut(name, -1)
				d.Cut(name, 1000)
				d.Append(name, tooMuch)
			}
			call := anyCall(later)
			if have, want := call(d), call(twin); have != want || state(d) != state(twin) {
				t.Fatalf("%v, %s; not %v, %s", have, state(d), want, state(twin))
			}
		}
		d.Crash(3)
		twin.Crash(3)
		sameReads(t, d, twin)
	}
}

func TestP4_9_RefusedByTheirKind(t *testing.T) {
	for _, x := range wrongWrites() {
		d := two(t)
		if e := x.do(d); e != x.e || shown(d) != twoShown || d.Down() {
			t.Errorf("%s: %d, %s", x.name, e, state(d))
		}
		// The one appended to last is what it was.
		d.Crash(1)
		look(t, d, "a:1| b:456|")
	}
}

func TestP4_9_UnarmedStaysUp(t *testing.T) {
	pick := rand.New(rand.NewPCG(9, 9))
	d := disk.New()
	for range 5000 {
		call := anyCall(pick)
		have := call(d)
		// What was armed is taken back ahead of the next write.
		d.Arm(-pick.IntN(2))
		if have == any(api.ErrDown) || d.Down() {
			t.Fatalf("%v: %s", have, state(d))
		}
	}
}

// Two disks in turn answer as each does alone.
func TestP4_9_TwoDisks(t *testing.T) {
	for seed := range uint64(100) {
		d, alone := twins(seed)
		e, single := twins(seed + 1000)
		pick, other := rand.New(rand.NewPCG(1, seed)), rand.New(rand.NewPCG(2, seed))
		for range 40 {
			call := anyCall(pick)
			want := call(alone)
			if have := call(d); have != want {
				t.Fatalf("%v; not %v", have, want)
			}
			call = anyCall(other)
			want = call(single)
			if have := call(e); have != want {
				t.Fatalf("%v; not %v", have, want)
			}
			if state(d) != state(alone) || state(e) != state(single) {
				t.Fatalf("%s; not %s", state(d), state(alone))
			}
		}
	}
}

func TestP4_9_TwoDisksByHand(t *testing.T) {
	d, e := disk.New(), disk.New()
	ok(t, d.Create("a"), e.Create("a"), d.Append("a", []byte("12")), e.Append("a", []byte("34")), d.Sync("a"))
	look(t, d, "a:12|")
	look(t, e, "a:|34")
	d.Arm(1)
	ok(t, e.Append("a", []byte("5")))
	told(t, d.Append("a", []byte("67")), api.ErrDown)
	ok(t, e.Create("b"))
	if e.Down() || !d.Down() || d.Has("b") {
		t.Errorf("%s, %s", state(d), state(e))
	}
	e.Crash(1)
	look(t, d, "a:12|6")
	look(t, e, "a:3| b:|")
	ok(t, e.Remove("a"))
	d.Crash(9)
	look(t, d, "a:126|")
	look(t, e, "b:|")
}
