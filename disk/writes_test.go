package disk_test

import (
	"bytes"
	"math"
	"slices"
	"strings"
	"testing"

	"synod/api"
	"synod/disk"
)

// The chapter's examples, one behind the other.
func TestP4_2_Examples(t *testing.T) {
	d := disk.New()
	told(t, d.Create("a"), api.OK)
	told(t, d.Create("a"), api.ErrThere)
	told(t, d.Create("A"), api.ErrName)
	told(t, d.Append("b", []byte{1}), api.ErrNone)
	told(t, d.Append("a", []byte{1, 2, 3}), api.OK)
	told(t, d.Sync("a"), api.OK)
	told(t, d.Append("a", []byte{4, 5}), api.OK)
	look(t, d, "a:\x01\x02\x03|\x04\x05")
	if d.Size() != 5 {
		t.Errorf("%d bytes", d.Size())
	}
	d.Crash(1)
	look(t, d, "a:\x01\x02\x03\x04|")
	told(t, d.Append("a", []byte{9}), api.OK)
	told(t, d.Create("b"), api.OK)
	told(t, d.Append("b", []byte{7, 8}), api.OK)
	d.Crash(9)
	look(t, d, "a:\x01\x02\x03\x04| b:\x07\x08|")
	told(t, d.Cut("b", 3), api.ErrRange)
	told(t, d.Cut("b", 1), api.OK)
	told(t, d.Rename("b", "a"), api.OK)
	look(t, d, "a:\x07|")
	d.Arm(2)
	told(t, d.Append("a", []byte{1}), api.OK)
	told(t, d.Append("a", []byte{2, 3, 4}), api.ErrDown)
	told(t, d.Sync("a"), api.ErrDown)
	look(t, d, "a:\x07|\x01\x02")
	if !d.Down() {
		t.Error("it isn't down")
	}
	d.Crash(0)
	look(t, d, "a:\x07|")
	if d.Down() {
		t.Error("it is down")
	}
}

func TestP4_2_CreateNames(t *testing.T) {
	d := disk.New()
	for _, name := range wrongNames() {
		if e := d.Create(name); e != api.ErrName {
			t.Errorf("Create(%q) = %d", name, e)
		}
	}
	for _, name := range rightNames() {
		ok(t, d.Create(name))
		told(t, d.Create(name), api.ErrThere)
	}
	if !slices.Equal(d.List(), rightNames()) || d.Size() != 0 {
		t.Errorf("%v", d.List())
	}
}

func TestP4_2_CreateLeavesTheOneThatIsThere(t *testing.T) {
	d := load(t, file("a", "12", "34"))
	ok(t, d.Append("a", []byte("5")))
	told(t, d.Create("a"), api.ErrThere)
	look(t, d, "a:12|345")
	// A new file isn't the one appended to last.
	ok(t, d.Create("b"))
	d.Crash(9)
	look(t, d, "a:12345| b:|")
}

func TestP4_2_CreateFull(t *testing.T) {
	d := disk.New()
	for _, f := range many(api.MaxFiles) {
		ok(t, d.Create(f.Name))
	}
	told(t, d.Create("x"), api.ErrFull)
	told(t, d.Create("f3"), api.ErrThere)
	told(t, d.Create("X"), api.ErrName)
	if len(d.List()) != api.MaxFiles || d.Has("x") {
		t.Errorf("%d files", len(d.List()))
	}
	// A new name for a file is no file more.
	ok(t, d.Rename("f0", "x"))
	told(t, d.Create("f0"), api.ErrFull)
	ok(t, d.Rename("f1", "x"), d.Create("f0"))
	told(t, d.Create("f1"), api.ErrFull)
	ok(t, d.Remove("f9"), d.Create("f1"))
	told(t, d.Create("f9"), api.ErrFull)
}

func TestP4_2_Append(t *testing.T) {
	d := disk.New()
	ok(t, d.Create("a"), d.Create("b"))
	ok(t, d.Append("a", []byte("12")), d.Append("b", []byte("x")), d.Append("a", []byte("345")), d.Append("a", nil), d.Append("b", []byte{}))
	look(t, d, "a:|12345 b:|x")
	ok(t, d.Sync("a"), d.Append("a", []byte("6")))
	look(t, d, "a:12345|6 b:|x")
	for _, name := range append(wrongNames(), "c", "ab") {
		told(t, d.Append(name, []byte("1")), api.ErrNone)
		told(t, d.Append(name, nil), api.ErrNone)
	}
	look(t, d, "a:12345|6 b:|x")
}

// appended is a disk with bytes that are not durable in two files, b being the one appended to last.
func appended(t *testing.T) *disk.Disk {
	t.Helper()
	d := load(t, file("a", "1", "23"), file("b", "4", ""))
	ok(t, d.Append("b", []byte("56")))
	return d
}

func TestP4_2_AppendIsTheLastOne(t *testing.T) {
	d := appended(t)
	d.Crash(9)
	look(t, d, "a:1| b:456|")
	// With no bytes, too.
	for _, none := range [][]byte{nil, {}} {
		d = appended(t)
		ok(t, d.Append("a", none))
		d.Crash(9)
		look(t, d, "a:123| b:4|")
	}
	// One that was refused isn't it.
	d = appended(t)
	told(t, d.Append("a", make([]byte, api.MaxDisk)), api.ErrFull)
	told(t, d.Append("c", nil), api.ErrNone)
	d.Crash(9)
	look(t, d, "a:1| b:456|")
	// The other writes leave it.
	d = appended(t)
	ok(t, d.Create("c"), d.Sync("b"), d.Cut("a", 2), d.Rename("c", "d"), d.Remove("d"), d.Cut("b", 2))
	look(t, d, "a:1|2 b:45|")
	ok(t, d.Sync("a"))
	d.Crash(9)
	look(t, d, "a:12| b:45|")
	d = appended(t)
	ok(t, d.Cut("a", 3), d.Rename("a", "c"), d.Create("a"), d.Cut("b", 2))
	d.Crash(9)
	look(t, d, "a:| b:45| c:1|")
}

func TestP4_2_AppendFull(t *testing.T) {
	d := disk.New()
	ok(t, d.Create("a"), d.Create("b"))
	most := make([]byte, api.MaxDisk+1)
	told(t, d.Append("a", most), api.ErrFull)
	told(t, d.Append("c", most), api.ErrNone)
	if d.Size() != 0 {
		t.Fatalf("%d bytes", d.Size())
	}
	ok(t, d.Append("a", most[:api.MaxDisk-3]))
	told(t, d.Append("a", most[:4]), api.ErrFull)
	told(t, d.Append("b", most[:4]), api.ErrFull)
	told(t, d.Append("b", most), api.ErrFull)
	ok(t, d.Append("b", most[:2]), d.Append("a", most[:1]))
	if d.Size() != api.MaxDisk {
		t.Fatalf("%d bytes", d.Size())
	}
	told(t, d.Append("a", most[:1]), api.ErrFull)
	told(t, d.Append("b", most[:1]), api.ErrFull)
	told(t, d.Append("c", most[:1]), api.ErrNone)
	ok(t, d.Append("b", nil), d.Append("a", nil), d.Create("c"), d.Sync("b"))
	if d.Size() != api.MaxDisk {
		t.Fatalf("%d bytes", d.Size())
	}
	// What is taken away makes room.
	ok(t, d.Cut("a", api.MaxDisk-10), d.Append("c", most[:8]))
	told(t, d.Append("c", most[:1]), api.ErrFull)
	ok(t, d.Rename("c", "b"), d.Append("b", most[:2]))
	told(t, d.Append("b", most[:1]), api.ErrFull)
	d.Crash(0)
	ok(t, d.Append("b", most[:api.MaxDisk]))
	told(t, d.Append("a", most[:1]), api.ErrFull)
	ok(t, d.Remove("b"), d.Append("a", most[:api.MaxDisk]))
	told(t, d.Append("a", most[:1]), api.ErrFull)
}

func TestP4_2_Sync(t *testing.T) {
	d := load(t, file("a", "1", "23"), file("b", "", "45"), file("c", "", ""))
	ok(t, d.Sync("a"))
	look(t, d, "a:123| b:|45 c:|")
	ok(t, d.Sync("a"), d.Sync("c"))
	look(t, d, "a:123| b:|45 c:|")
	ok(t, d.Sync("b"))
	look(t, d, "a:123| b:45| c:|")
	for _, name := range append(wrongNames(), "d", "ab") {
		told(t, d.Sync(name), api.ErrNone)
	}
	d.Crash(0)
	look(t, d, "a:123| b:45| c:|")
}

func TestP4_2_Cut(t *testing.T) {
	for n, want := range []string{"a:|", "a:1|", "a:12|", "a:12|3", "a:12|34"} {
		d := load(t, file("a", "12", "34"), file("b", "5", "6"))
		ok(t, d.Cut("a", n))
		look(t, d, want+" b:5|6")
		ok(t, d.Append("a", []byte("x")))
		look(t, d, want+"x b:5|6")
		ok(t, d.Sync("a"))
		d.Crash(0)
		look(t, d, strings.ReplaceAll(want, "|", "")+"x| b:5|")
	}
}

func TestP4_2_WrongCut(t *testing.T) {
	d := load(t, file("a", "12", "34"), file("b", "", ""))
	for _, n := range []int{-1, 5, 6, -4, math.MinInt, math.MaxInt} {
		told(t, d.Cut("a", n), api.ErrRange)
		told(t, d.Cut("c", n), api.ErrNone)
	}
	told(t, d.Cut("b", -1), api.ErrRange)
	told(t, d.Cut("b", 1), api.ErrRange)
	for _, name := range append(wrongNames(), "c", "ab") {
		told(t, d.Cut(name, 0), api.ErrNone)
		told(t, d.Cut(name, -1), api.ErrNone)
	}
	look(t, d, "a:12|34 b:|")
	ok(t, d.Cut("b", 0), d.Cut("a", 3))
	told(t, d.Cut("a", 4), api.ErrRange)
	look(t, d, "a:12|3 b:|")
}

// What was cut off doesn't come back, neither by a crash nor by what is appended then.
func TestP4_2_CutIsDurable(t *testing.T) {
	for _, keep := range []int{-1, 0, 1, 9} {
		d := load(t, file("a", "1234", ""))
		ok(t, d.Cut("a", 2))
		d.Crash(keep)
		look(t, d, "a:12|")
		ok(t, d.Append("a", []byte("567")), d.Cut("a", 4))
		look(t, d, "a:12|56")
		d.Crash(keep)
		look(t, d, "a:12"+"56"[:min(max(keep, 0), 2)]+"|")
	}
	d := load(t, file("a", "1234", ""))
	ok(t, d.Cut("a", 1), d.Append("a", []byte("xyz")))
	look(t, d, "a:1|xyz")
	d.Crash(0)
	look(t, d, "a:1|")
}

func TestP4_2_Rename(t *testing.T) {
	d := load(t, file("a", "1", "2"), file("b", "3", "4"))
	ok(t, d.Rename("a", "c"))
	look(t, d, "b:3|4 c:1|2")
	if d.Has("a") {
		t.Error("the old name is there")
	}
	// In the place of another one.
	ok(t, d.Rename("c", "b"))
	look(t, d, "b:1|2")
	ok(t, d.Create("c"), d.Rename("b", "c"))
	look(t, d, "c:1|2")
	// To itself.
	ok(t, d.Rename("c", "c"))
	look(t, d, "c:1|2")
	// The old name is free.
	ok(t, d.Create("b"), d.Append("b", []byte("5")))
	look(t, d, "b:|5 c:1|2")
}

func TestP4_2_RenameIsDurable(t *testing.T) {
	d := load(t, file("a", "1", "2"), file("b", "3", "4"))
	ok(t, d.Rename("a", "b"), d.Create("c"))
	d.Crash(9)
	look(t, d, "b:1| c:|")
	ok(t, d.Rename("b", "d"), d.Remove("c"))
	d.Crash(0)
	look(t, d, "d:1|")
}

func TestP4_2_WrongRename(t *testing.T) {
	d := load(t, file("a", "1", "2"), file("b", "3", "4"))
	for _, name := range wrongNames() {
		told(t, d.Rename("a", name), api.ErrName)
		told(t, d.Rename(name, "a"), api.ErrNone)
		told(t, d.Rename(name, name), api.ErrNone)
		told(t, d.Rename("c", name), api.ErrNone)
	}
	told(t, d.Rename("c", "a"), api.ErrNone)
	told(t, d.Rename("c", "c"), api.ErrNone)
	look(t, d, "a:1|2 b:3|4")
	for _, name := range rightNames() {
		ok(t, d.Rename("b", name))
		if b, e := d.Read(name); string(b) != "34" || e != api.OK {
			t.Errorf("%s: %s, %d", name, b, e)
		}
		ok(t, d.Rename(name, "b"))
	}
}

func TestP4_2_RenameOfTheLastOne(t *testing.T) {
	// Under a new name it is still the one.
	d := appended(t)
	ok(t, d.Rename("b", "c"))
	d.Crash(1)
	look(t, d, "a:1| c:45|")
	// In the place of another one, too.
	d = appended(t)
	ok(t, d.Rename("b", "a"))
	d.Crash(1)
	look(t, d, "a:45|")
	// To itself.
	d = appended(t)
	ok(t, d.Rename("b", "b"))
	d.Crash(1)
	look(t, d, "a:1| b:45|")
	// There and back; a new file of the name that it had isn't it.
	d = appended(t)
	ok(t, d.Rename("b", "c"), d.Rename("c", "b"))
	d.Crash(1)
	look(t, d, "a:1| b:45|")
	d = appended(t)
	ok(t, d.Rename("b", "c"), d.Rename("a", "b"))
	d.Crash(9)
	look(t, d, "b:1| c:456|")
}

func TestP4_2_RenameOntoTheLastOne(t *testing.T) {
	d := appended(t)
	ok(t, d.Rename("a", "b"))
	look(t, d, "b:1|23")
	d.Crash(9)
	look(t, d, "b:1|")
	// One that was refused leaves it.
	d = appended(t)
	told(t, d.Rename("c", "b"), api.ErrNone)
	told(t, d.Rename("b", "B"), api.ErrName)
	d.Crash(9)
	look(t, d, "a:1| b:456|")
}

func TestP4_2_Remove(t *testing.T) {
	d := load(t, file("a", "1", "2"), file("b", "3", "4"))
	ok(t, d.Remove("a"))
	look(t, d, "b:3|4")
	told(t, d.Remove("a"), api.ErrNone)
	told(t, d.Append("a", nil), api.ErrNone)
	told(t, d.Sync("a"), api.ErrNone)
	for _, name := range append(wrongNames(), "c", "bb") {
		told(t, d.Remove(name), api.ErrNone)
	}
	d.Crash(9)
	look(t, d, "b:3|")
	ok(t, d.Create("a"))
	look(t, d, "a:| b:3|")
	ok(t, d.Remove("a"), d.Remove("b"))
	look(t, d, "")
}

func TestP4_2_RemoveOfTheLastOne(t *testing.T) {
	d := appended(t)
	ok(t, d.Remove("b"))
	d.Crash(9)
	look(t, d, "a:1|")
	// A new file of that name isn't it, nor is another one that takes the name.
	d = appended(t)
	ok(t, d.Remove("b"), d.Create("b"))
	look(t, d, "a:1|23 b:|")
	d.Crash(9)
	look(t, d, "a:1| b:|")
	d = appended(t)
	ok(t, d.Remove("b"), d.Rename("a", "b"))
	d.Crash(9)
	look(t, d, "b:1|")
	// Of another one: it stays.
	d = appended(t)
	ok(t, d.Remove("a"), d.Create("a"))
	d.Crash(9)
	look(t, d, "a:| b:456|")
}

func TestP4_2_CreateIsDurable(t *testing.T) {
	d := disk.New()
	ok(t, d.Create("a"), d.Create("b"))
	d.Crash(0)
	look(t, d, "a:| b:|")
	ok(t, d.Remove("a"))
	d.Crash(0)
	look(t, d, "b:|")
}

// Each byte may stand in a file.
func TestP4_2_AnyBytes(t *testing.T) {
	var all []byte
	for c := range 256 {
		all = append(all, byte(c))
	}
	d := disk.New()
	ok(t, d.Create("a"), d.Append("a", all), d.Append("a", all))
	if b, e := d.Read("a"); e != api.OK || !bytes.Equal(b, append(all, all...)) {
		t.Errorf("%x, %d", b, e)
	}
}
