package disk_test

import (
	"bytes"
	"slices"
	"testing"

	"synod/api"
	"synod/disk"
)

// scribble writes all over a list and its spare room.
func scribble(b []byte) {
	for i := range b[:cap(b)] {
		b[:cap(b)][i] = 0xee
	}
}

// roomy is the bytes of a text, with others behind their length.
func roomy(s string) []byte { return []byte(s + "behind it")[:len(s)] }

func TestP4_6_AppendKeepsNothing(t *testing.T) {
	d := disk.New()
	ok(t, d.Create("a"), d.Create("b"))
	for _, n := range []int{0, 2} {
		b := roomy("12345"[:n])
		was := bytes.Clone(b[:cap(b)])
		ok(t, d.Append("a", b), d.Append("b", b), d.Append("a", b), d.Append("b", []byte("x")), d.Sync("b"))
		if !bytes.Equal(b[:cap(b)], was) {
			t.Errorf("the argument is changed: %s", b[:cap(b)])
		}
		scribble(b)
	}
	look(t, d, "a:|1212 b:x12x|")
	// The one that fails, too.
	b := roomy("3456")
	was := bytes.Clone(b[:cap(b)])
	d.Arm(1)
	told(t, d.Append("a", b), api.ErrDown)
	if !bytes.Equal(b[:cap(b)], was) {
		t.Errorf("the argument is changed: %s", b[:cap(b)])
	}
	scribble(b)
	look(t, d, "a:|121234 b:x12x|")
}

func TestP4_6_LoadKeepsNothing(t *testing.T) {
	shared := roomy("123")
	files := []api.File{{Name: "b", Data: shared, Synced: 1}, {Name: "a", Data: shared[:2]}, {Name: "c", Data: roomy("")}, {Name: "A"}}[:3]
	was := bytes.Clone(shared[:cap(shared)])
	d, e := disk.Load(files)
	other, f := disk.Load(files)
	if e != api.OK || f != api.OK {
		t.Fatalf("%d, %d", e, f)
	}
	// Nothing is written into what was handed in, whatever is done with the disk.
	ok(t, d.Append("a", []byte("xyz")), d.Append("c", []byte("xyz")), d.Cut("b", 1), d.Append("b", []byte("uvw")))
	d.Crash(2)
	look(t, d, "a:| b:1uv| c:|")
	look(t, other, "a:|12 b:1|23 c:|")
	if !bytes.Equal(shared[:cap(shared)], was) || say(files[:4]) != say([]api.File{{Name: "b", Data: was[:3], Synced: 1}, {Name: "a", Data: was[:2]}, {Name: "c"}, {Name: "A"}}) {
		t.Errorf("what was handed in is changed: %s, %v", shared[:cap(shared)], files[:4])
	}
	// And nothing that is written into it is seen.
	scribble(shared)
	files[0] = api.File{Name: "z", Synced: 9}
	clear(files[1:])
	look(t, other, "a:|12 b:1|23 c:|")
	ok(t, other.Append("c", nil))
	other.Crash(9)
	look(t, other, "a:| b:1| c:|")
}

func TestP4_6_RefusedLoadLeavesItsFiles(t *testing.T) {
	files := []api.File{{Name: "b", Data: roomy("12"), Synced: 1}, {Name: "a", Data: roomy("3")}, {Name: "b"}}
	was := say(files)
	refused(t, "a name again", files, api.ErrThere)
	if say(files) != was {
		t.Errorf("%v", files)
	}
}

func TestP4_6_ReadIsNewMemory(t *testing.T) {
	d := disk.New()
	ok(t, d.Create("a"))
	// The file grows step by step, so that there is spare room behind it.
	for i := range 40 {
		ok(t, d.Append("a", []byte{byte('0' + i)}))
		b, _ := d.Read("a")
		c, _ := d.Read("a")
		was := bytes.Clone(c)
		scribble(b)
		_ = append(b, 'x')
		if again, _ := d.Read("a"); !bytes.Equal(c, was) || !bytes.Equal(again, was) {
			t.Fatalf("%s, %s; not %s", c, again, was)
		}
		ok(t, d.Append("a", []byte("y")), d.Cut("a", i+1))
		if !bytes.Equal(c, was) {
			t.Fatalf("the disk writes into what was answered: %s", c)
		}
	}
	// Spare room that is written into is no part of the file, whatever is cut off and appended then.
	ok(t, d.Cut("a", 3))
	b, _ := d.Read("a")
	scribble(b)
	_ = append(b, 'x')
	ok(t, d.Append("a", []byte("3")))
	look(t, d, "a:|0123")
}

func TestP4_6_FilesAreNewMemory(t *testing.T) {
	d := two(t)
	ok(t, d.Create("c"))
	want := twoShown + " c:|"
	l, m := d.Files(), d.Files()
	said := say(m)
	for i := range l {
		scribble(l[i].Data)
		_ = append(l[i].Data, 'x')
		for k := range l {
			if k > i && !bytes.Equal(l[k].Data, m[k].Data) {
				t.Errorf("files %d and %d share memory", i, k)
			}
		}
	}
	for i := range l[:cap(l)] {
		l[:cap(l)][i] = api.File{Name: "z", Synced: 9}
	}
	if say(m) != said {
		t.Errorf("two answers share memory: %v", m)
	}
	look(t, d, want)
	ok(t, d.Append("a", []byte("8")), d.Append("b", []byte("9")), d.Append("c", []byte("0")), d.Sync("a"))
	d.Crash(0)
	if say(m) != said {
		t.Errorf("the disk writes into what was answered: %v", m)
	}
}

func TestP4_6_ListIsNewMemory(t *testing.T) {
	d := two(t)
	l, m := d.List(), d.List()
	for i := range l[:cap(l)] {
		l[:cap(l)][i] = "z"
	}
	_ = append(l, "x")
	if !slices.Equal(m, []string{"a", "b"}) || !slices.Equal(d.List(), m) {
		t.Errorf("%v, %v", m, d.List())
	}
	look(t, d, twoShown)
}
