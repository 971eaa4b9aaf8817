package snap_test

import (
	"fmt"
	"testing"

	"synod/api"
	"synod/disk"
	"synod/snap"
)

func TestP6_3_Load(t *testing.T) {
	one, two, three := of(3, "three"), of(20, ""), of(api.MaxIndex, "most")
	d := disk.New()
	none(t, d)
	d = load(t, place(one))
	tells(t, d, one, 0)
	d = load(t, place(two), place(one))
	tells(t, d, two, 0)
	d = load(t, place(two), place(three), place(one))
	tells(t, d, three, 0)
	d = load(t, file(name(1), laid(numbers(1, 1, 0))))
	tells(t, d, api.Snap{Index: 1, Term: 1}, 0)
	s := api.Snap{Index: api.MaxIndex, Term: api.MaxIndex, Data: make([]byte, api.MaxSnap)}
	s.Data[0], s.Data[api.MaxSnap-1] = 1, 2
	d = load(t, place(s), place(one))
	tells(t, d, s, 0)
	if x, _, _ := snap.Load(d); string(x.Data) != string(s.Data) {
		t.Error("the data are others")
	}
}

// Terms and data don't count: the greatest index is the newest.
func TestP6_3_GreatestIndex(t *testing.T) {
	for _, indices := range [][]int{{1, 2}, {2, 10}, {9, 10, 11}, {99, 100}, {5, 1 << 40}, {api.MaxIndex - 1, api.MaxIndex}} {
		var files []api.File
		for i, index := range indices {
			files = append(files, place(api.Snap{Index: index, Term: 100 - i, Data: make([]byte, 50-i)}))
		}
		d := load(t, files...)
		last := len(indices) - 1
		tells(t, d, api.Snap{Index: indices[last], Term: 100 - last, Data: make([]byte, 50-last)}, 0)
		listed(t, d, indices...)
	}
}

// Bytes that are not durable are read as well.
func TestP6_3_NotDurable(t *testing.T) {
	s := of(5, "ab")
	d := load(t, loose(name(5), stored(s)), place(of(4, "x")))
	tells(t, d, s, 0)
	d.Crash(99)
	tells(t, d, of(4, "x"), 1)
}

// spoiltFile is what a file of the index 5 may have without being whole.
type spoiltFile struct {
	why string
	b   []byte
}

func spoiltFiles() []spoiltFile {
	s := of(5, "ab")
	whole := stored(s)
	l := []spoiltFile{
		{"two frames", join(whole, whole)},
		{"a byte behind the frame", join(whole, []byte{0})},
		{"a byte ahead of the frame", join([]byte{0}, whole)},
		{"a frame of nothing", laid(nil)},
		{"two frames, the first one of nothing", join(laid(nil), whole)},
		{"a text without a frame", text(s)},
		{"a text with a byte behind it", laid(join(text(s), []byte{0}))},
		{"a text without its last byte", laid(text(s)[:4])},
		{"a number in a longer form", laid([]byte{0x85, 0, 2, 2, 'a', 'b'})},
		{"a text that is none", laid([]byte("some other text"))},
		{"an index alone", laid(numbers(5))},
		{"the snapshot that is none", laid(numbers(0, 0, 0))},
		{"an index of 0", laid(join(numbers(0, 2, 2), []byte("ab")))},
		{"a term of 0", laid(join(numbers(5, 0, 2), []byte("ab")))},
		{"a term above MaxIndex", laid(join(numbers(5, api.MaxIndex+1, 2), []byte("ab")))},
		{"the index below", stored(of(4, "ab"))},
		{"the index above", stored(of(6, "ab"))},
		{"the index in other digits", stored(of(50, "ab"))},
		{"the greatest index", stored(of(api.MaxIndex, "ab"))},
		{"an index above MaxIndex", laid(join(numbers(api.MaxIndex+5, 2, 2), []byte("ab")))},
		{"a frame in a frame", laid(whole)},
		{"too much data", stored(api.Snap{Index: 5, Term: 2, Data: make([]byte, api.MaxSnap+1)})},
		{"too long a frame", laid(make([]byte, api.MaxFrame+1))},
	}
	for i := range whole {
		l = append(l, spoiltFile{fmt.Sprint("torn behind ", i), whole[:i]})
		for bit := range 8 {
			b := join(whole)
			b[i] ^= 1 << bit
			l = append(l, spoiltFile{fmt.Sprint("with a bit turned in ", i), b})
		}
	}
	return l
}

func TestP6_3_NotWhole(t *testing.T) {
	for _, x := range spoiltFiles() {
		bad := file(name(5), x.b)
		for _, y := range []struct {
			files []api.File
			want  string
		}{
			{[]api.File{bad}, answer(api.Snap{}, 0, api.ErrNone)},
			{[]api.File{bad, place(of(4, "four"))}, answer(of(4, "four"), 1, api.OK)},
			{[]api.File{bad, place(of(6, "six"))}, answer(of(6, "six"), 0, api.OK)},
			{[]api.File{bad, place(of(6, "six")), place(of(4, "four"))}, answer(of(6, "six"), 0, api.OK)},
			{[]api.File{bad, file(name(6), x.b[:len(x.b)/2]), file(name(99)), place(of(3, "three")), place(of(2, "two"))}, answer(of(3, "three"), 3, api.OK)},
			{[]api.File{bad, file(name(6), []byte("six")), file(snap.Temp, stored(of(7, "seven")))}, answer(api.Snap{}, 0, api.ErrNone)},
		} {
			d := load(t, y.files...)
			if s := loaded(d); s != y.want {
				t.Errorf("%s: Load is %s; not %s", x.why, s, y.want)
			}
			holds(t, d, y.files...) // a look changes nothing
		}
	}
}

// The greater ones that aren't whole are counted, the lesser ones not.
func TestP6_3_PassedOver(t *testing.T) {
	const most = 7
	for is := range 1 << most { // which ones are whole
		var files []api.File
		want, passed := answer(api.Snap{}, 0, api.ErrNone), most
		for i := range most {
			s := of(i+1, fmt.Sprint(i))
			if is>>i&1 == 0 {
				files = append(files, file(name(i+1), stored(s)[:i]))
				continue
			}
			files = append(files, place(s))
			passed = most - 1 - i
			want = answer(s, passed, api.OK)
		}
		if s := loaded(load(t, files...)); s != want {
			t.Errorf("%07b: Load is %s; not %s", is, s, want)
		}
	}
}

// Files of other names are neither told nor loaded nor counted, whatever they have in them.
func TestP6_3_OtherNames(t *testing.T) {
	s := of(5, "ab")
	var others []api.File
	for _, other := range wrongNames() {
		d := disk.New()
		if d.Create(other) != api.OK {
			continue // no disk has such a file
		}
		ok(t, d.Append(other, stored(s)))
		none(t, d)
		listed(t, d)
		ok(t, d.Sync(other))
		others = append(others, d.Files()...)
	}
	if len(others) < 20 {
		t.Fatalf("%d names", len(others))
	}
	d := load(t, others...)
	none(t, d)
	listed(t, d)
	ok(t, snap.Save(d, of(3, "x")))
	tells(t, d, of(3, "x"), 0)
	listed(t, d, 3)
}

func TestP6_3_List(t *testing.T) {
	d := load(t, file(name(30)), file(name(4), []byte("spoilt")), place(of(100, "x")), junk(), file("a"), file("z"), file(name(api.MaxIndex)),
		loose(name(1), []byte("1")), file("wal-00000007"))
	listed(t, d, 1, 4, 30, 100, api.MaxIndex)
	ok(t, d.Remove(name(30)), d.Rename(name(4), "snap-4"))
	listed(t, d, 1, 100, api.MaxIndex)
	listed(t, load(t, junk()))
	// As many files as a disk may have.
	var want []int
	d = disk.New()
	for i := api.MaxFiles; i > 0; i-- {
		ok(t, d.Create(name(i)))
	}
	for i := range api.MaxFiles {
		want = append(want, i+1)
	}
	listed(t, d, want...)
	none(t, d)
}

// A disk that is down is read all the same.
func TestP6_3_DiskIsDown(t *testing.T) {
	d := load(t, place(of(5, "ab")), file(name(6)))
	d.Arm(1)
	told(t, d.Create("a"), api.ErrDown)
	tells(t, d, of(5, "ab"), 1)
	listed(t, d, 5, 6)
	// Nor is a look counted among the writes.
	d.Crash(0)
	d.Arm(1)
	tells(t, d, of(5, "ab"), 1)
	listed(t, d, 5, 6)
	if d.Down() {
		t.Error("a look is a write")
	}
	told(t, d.Create("a"), api.ErrDown)
}
