package snap_test

import (
	"bytes"
	"testing"

	"synod/api"
	"synod/disk"
	"synod/snap"
)

// scribble writes all over a list and its spare room.
func scribble(b []byte) {
	for i := range b[:cap(b)] {
		b[:cap(b)][i] = 0xee
	}
}

// roomy is the bytes of a text, with others behind their length.
func roomy(s string) []byte { return []byte(s + "behind it")[:len(s)] }

// Save neither changes nor keeps a snapshot's data, nor reads what lies behind it; nor does one that is refused or fails.
func TestP6_5_SaveKeepsNothing(t *testing.T) {
	for _, x := range []struct {
		index, arm int
		e          api.Errno
	}{{5, 0, api.OK}, {0, 0, api.ErrRange}, {5, 1, api.ErrDown}, {5, 2, api.ErrDown}, {5, 3, api.ErrDown}, {5, 4, api.ErrDown}} {
		for _, s := range []string{"", "a", "abcd"} {
			d := disk.New()
			d.Arm(x.arm)
			data := roomy(s)
			was := bytes.Clone(data[:cap(data)])
			told(t, snap.Save(d, api.Snap{Index: x.index, Term: 2, Data: data}), x.e)
			if !bytes.Equal(data[:cap(data)], was) {
				t.Errorf("what was handed in is %q; was %q", data[:cap(data)], was)
			}
			left := d.Files()
			scribble(data)
			holds(t, d, left...)
			if x.e == api.OK {
				holds(t, d, place(of(5, s)))
				tells(t, d, of(5, s), 0)
			}
		}
	}
}

// The data that Save is handed may be those that Load has answered.
func TestP6_5_DataOfAnAnswer(t *testing.T) {
	d := load(t, place(of(5, "abcd")))
	s, _, e := snap.Load(d)
	ok(t, e)
	s.Index, s.Data = 6, s.Data[:2]
	ok(t, snap.Save(d, s))
	holds(t, d, place(of(5, "abcd")), place(of(6, "ab")))
	if string(s.Data[:4]) != "abcd" {
		t.Errorf("what was handed in is %q", s.Data[:4])
	}
}

func TestP6_5_LoadIsNewMemory(t *testing.T) {
	for _, data := range []string{"", "a", "abcd", string(make([]byte, 1000))} {
		d := load(t, place(of(5, data)), file(name(7), []byte("spoilt")))
		one, _, _ := snap.Load(d)
		two, _, _ := snap.Load(d)
		scribble(append(one.Data, 1))
		scribble(one.Data)
		if string(two.Data) != data {
			t.Errorf("another answer is %q", two.Data)
		}
		holds(t, d, place(of(5, data)), file(name(7), []byte("spoilt")))
		tells(t, d, of(5, data), 1)
		// What the disk does later isn't seen in an answer.
		ok(t, d.Cut(name(5), 0), d.Append(name(5), make([]byte, 2000)), snap.Save(d, of(5, "wxyz")))
		if string(two.Data) != data {
			t.Errorf("an answer is %q, behind later writes", two.Data)
		}
	}
}

// Nor does what is written into an answer come up where a greater index is saved behind it.
func TestP6_5_AnswersOfSeveral(t *testing.T) {
	d := disk.New()
	ok(t, snap.Save(d, of(1, "aaaa")))
	one, _, _ := snap.Load(d)
	ok(t, snap.Save(d, of(2, "bbbb")))
	two, _, _ := snap.Load(d)
	scribble(two.Data)
	if string(one.Data) != "aaaa" {
		t.Errorf("an earlier answer is %q", one.Data)
	}
	scribble(one.Data)
	holds(t, d, place(of(1, "aaaa")), place(of(2, "bbbb")))
}

func TestP6_5_ListIsNewMemory(t *testing.T) {
	d := load(t, five()...)
	one, two := snap.List(d), snap.List(d)
	for i := range one[:cap(one)] {
		one[:cap(one)][i] = -9
	}
	_ = append(one, -8)
	if s, want := say(two), say([]int{2, 3, 10, 400, api.MaxIndex}); s != want {
		t.Errorf("another list is %s", s)
	}
	listed(t, d, 2, 3, 10, 400, api.MaxIndex)
	kept(t, d, 1, 4, api.OK)
	if s, want := say(two), say([]int{2, 3, 10, 400, api.MaxIndex}); s != want {
		t.Errorf("a list is %s, behind Keep", s)
	}
	two[0] = 7
	listed(t, d, api.MaxIndex)
}

// Two disks know nothing of one another.
func TestP6_5_TwoDisks(t *testing.T) {
	d, e := disk.New(), disk.New()
	s := of(5, "ab")
	ok(t, snap.Save(d, s), snap.Save(e, s), snap.Save(e, of(6, "cd")))
	ok(t, d.Append(name(5), []byte("more")))
	none(t, d)
	tells(t, e, of(6, "cd"), 0)
	kept(t, e, 1, 1, api.OK)
	listed(t, d, 5)
	d.Arm(1)
	told(t, snap.Save(d, s), api.ErrDown)
	ok(t, snap.Save(e, s))
}
