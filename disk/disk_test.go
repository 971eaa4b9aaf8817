package disk_test

import (
	"bytes"
	"fmt"
	"math"
	"slices"
	"strings"
	"testing"

	"synod/api"
	"synod/disk"
)

// say is anything as text.
func say(x ...any) string { return fmt.Sprint(x...) }

// shown is the files as text: each one's name, its durable bytes, and behind a bar the others.
func shown(d device) string {
	var l []string
	for _, f := range d.Files() {
		l = append(l, f.Name+":"+string(f.Data[:f.Synced])+"|"+string(f.Data[f.Synced:]))
	}
	return strings.Join(l, " ")
}

// look holds the files against a text.
func look(t *testing.T, d *disk.Disk, want string) {
	t.Helper()
	if s := shown(d); s != want {
		t.Errorf("the files are %q; not %q", s, want)
	}
}

// told holds an answer against the one that is asked for.
func told(t *testing.T, have, want api.Errno) {
	t.Helper()
	if have != want {
		t.Errorf("%d; not %d", have, want)
	}
}

// ok holds answers against OK.
func ok(t *testing.T, have ...api.Errno) {
	t.Helper()
	for i, e := range have {
		if e != api.OK {
			t.Errorf("answer %d is %d", i, e)
		}
	}
}

// load is a disk of files, or the test ends.
func load(t *testing.T, files ...api.File) *disk.Disk {
	t.Helper()
	d, e := disk.Load(files)
	if e != api.OK || d == nil {
		t.Fatalf("Load: %d", e)
	}
	return d
}

// file is a file of a name, its durable bytes and the others.
func file(name, durable, rest string) api.File {
	return api.File{Name: name, Data: []byte(durable + rest), Synced: len(durable)}
}

// many is n empty files.
func many(n int) []api.File {
	l := make([]api.File, n)
	for i := range l {
		l[i].Name = fmt.Sprintf("f%d", i)
	}
	return l
}

// wrongNames are texts that are no names.
func wrongNames() []string {
	l := []string{"", strings.Repeat("a", api.MaxName+1), strings.Repeat("-", 2*api.MaxName), strings.Repeat("a", 1<<20),
		"a b", "é", "ａ", "a/b", "a\x00", "a_b", strings.Repeat("a", api.MaxName-1) + "A", strings.Repeat("é", api.MaxName/2)}
	for c := range 256 {
		if !strings.Contains("abcdefghijklmnopqrstuvwxyz0123456789-.", string([]byte{byte(c)})) {
			one := string([]byte{byte(c)})
			l = append(l, one, one+"a", "a"+one, "a"+one+"a")
		}
	}
	return l
}

// rightNames are texts that are names, rising.
func rightNames() []string {
	l := []string{strings.Repeat("a", api.MaxName), strings.Repeat("z", api.MaxName), strings.Repeat("-.", api.MaxName/2),
		"..", "--", "-.", ".-", "0a", "a0", "aa", "snap.tmp", "wal-00000001", strings.Repeat("9", api.MaxName-1)}
	for _, c := range "abcdefghijklmnopqrstuvwxyz0123456789-." {
		l = append(l, string(c))
	}
	slices.Sort(l)
	return l
}

func TestP4_1_New(t *testing.T) {
	d := disk.New()
	b, e := d.Read("a")
	if len(d.Files()) != 0 || len(d.List()) != 0 || d.Size() != 0 || d.Has("a") || d.Down() || len(b) != 0 || e != api.ErrNone {
		t.Errorf("a new disk: %s", state(d))
	}
	ok(t, d.Create("a"))
	for range 100 {
		ok(t, d.Sync("a"))
	}
	if d.Down() {
		t.Error("a new disk is armed")
	}
}

func TestP4_1_Load(t *testing.T) {
	for i, x := range []struct {
		l    []api.File
		want string
	}{
		{nil, ""},
		{[]api.File{}, ""},
		{[]api.File{{Name: "a"}}, "a:|"},
		{[]api.File{{Name: "a", Data: []byte{}}}, "a:|"},
		{[]api.File{file("a", "", "xyz")}, "a:|xyz"},
		{[]api.File{file("a", "x", "yz")}, "a:x|yz"},
		{[]api.File{file("a", "xyz", "")}, "a:xyz|"},
		{[]api.File{file("c", "1", "2"), file("a", "", "3"), file("b", "4", ""), file("-", "", "")}, "-:| a:|3 b:4| c:1|2"},
		{[]api.File{file("a", "1", "2"), file("a.", "3", "4"), file("a-", "5", "6"), file("aa", "7", "8")}, "a:1|2 a-:5|6 a.:3|4 aa:7|8"},
	} {
		d, e := disk.Load(x.l)
		if e != api.OK || d == nil || shown(d) != x.want || d.Down() {
			t.Errorf("%d: %d, %v", i, e, d)
		}
	}
}

func TestP4_1_LoadIsUpAndNotArmed(t *testing.T) {
	d := load(t, file("a", "", "xyz"))
	for range 100 {
		ok(t, d.Append("a", nil))
	}
	if d.Down() {
		t.Error("a loaded disk is armed")
	}
}

func TestP4_1_LoadHasNoneAppendedToLast(t *testing.T) {
	for _, keep := range []int{-1, 0, 1, 2, 100, math.MaxInt} {
		d := load(t, file("b", "1", "23"), file("a", "4", "56"), file("c", "", "78"))
		d.Crash(keep)
		look(t, d, "a:4| b:1| c:|")
		d = load(t, file("a", "4", "56"))
		d.Crash(keep)
		look(t, d, "a:4|")
	}
}

// refused: Load answers an error, and no disk.
func refused(t *testing.T, why string, l []api.File, want api.Errno) {
	t.Helper()
	if d, e := disk.Load(l); d != nil || e != want {
		t.Errorf("%s: %v, %d; not %d", why, d != nil, e, want)
	}
}

func TestP4_1_LoadNames(t *testing.T) {
	for _, name := range wrongNames() {
		refused(t, say("the name ", name), []api.File{{Name: name}}, api.ErrName)
		refused(t, say("behind others, ", name), []api.File{{Name: "a"}, {Name: "b"}, {Name: name}}, api.ErrName)
	}
	var l []api.File
	for _, name := range rightNames() {
		l = append(l, api.File{Name: name})
	}
	if d := load(t, l...); !slices.Equal(d.List(), rightNames()) {
		t.Errorf("%v", d.List())
	}
}

func TestP4_1_LoadSynced(t *testing.T) {
	for _, n := range []int{0, 1, 2, 10} {
		for _, synced := range []int{-1, n + 1, 2*n + 1, -n - 1, math.MinInt, math.MaxInt, math.MinInt + n, math.MaxInt - n} {
			refused(t, say("Synced ", synced, " of ", n), []api.File{{Name: "a", Data: make([]byte, n), Synced: synced}}, api.ErrRange)
		}
		for synced := range n + 1 {
			d := load(t, api.File{Name: "a", Data: make([]byte, n), Synced: synced})
			if f := d.Files()[0]; f.Synced != synced || len(f.Data) != n {
				t.Errorf("Synced %d of %d: %v", synced, n, f)
			}
		}
	}
	// What lies behind the length is no part of the file.
	refused(t, "Synced in the spare room", []api.File{{Name: "a", Data: make([]byte, 2, 9), Synced: 3}}, api.ErrRange)
}

func TestP4_1_LoadFull(t *testing.T) {
	if d := load(t, many(api.MaxFiles)...); len(d.List()) != api.MaxFiles {
		t.Errorf("%d files", len(d.List()))
	}
	refused(t, "a file too many", many(api.MaxFiles+1), api.ErrFull)
	refused(t, "many files too many", many(5*api.MaxFiles), api.ErrFull)
	most := make([]byte, api.MaxDisk+1)
	if d := load(t, api.File{Name: "a", Data: most[1:], Synced: 7}); d.Size() != api.MaxDisk {
		t.Errorf("%d bytes", d.Size())
	}
	refused(t, "a byte too many", []api.File{{Name: "a", Data: most, Synced: 7}}, api.ErrFull)
	half := most[:api.MaxDisk/2]
	if d := load(t, api.File{Name: "a", Data: half}, api.File{Name: "b", Data: half, Synced: len(half)}); d.Size() != api.MaxDisk {
		t.Errorf("%d bytes", d.Size())
	}
	refused(t, "a byte too many together", []api.File{{Name: "a", Data: half}, {Name: "b", Data: half}, {Name: "c", Data: half[:1]}}, api.ErrFull)
	l := many(api.MaxFiles)
	for i := range l {
		l[i].Data = most
	}
	refused(t, "all too long", l, api.ErrFull)
}

func TestP4_1_LoadOrder(t *testing.T) {
	one := func(name string, n, synced int) api.File {
		return api.File{Name: name, Data: make([]byte, n), Synced: synced}
	}
	full := func(behind ...api.File) []api.File { return append(many(api.MaxFiles+1), behind...) }
	long := one("l", api.MaxDisk+1, 0)
	for _, x := range []struct {
		why  string
		l    []api.File
		want api.Errno
	}{
		// Within one file.
		{"a wrong name and Synced", []api.File{one("A", 1, 2)}, api.ErrName},
		{"a wrong name and Synced below 0", []api.File{one("a", 0, 0), one("", 1, -1)}, api.ErrName},
		{"a name again and Synced", []api.File{one("a", 1, 1), one("a", 1, 2)}, api.ErrThere},
		{"a name again and Synced below 0", []api.File{one("a", 1, 1), one("b", 0, 0), one("a", 1, -1)}, api.ErrThere},
		// File by file: the first one that is at fault.
		{"Synced, then a wrong name", []api.File{one("a", 1, 2), one("A", 0, 0)}, api.ErrRange},
		{"Synced, then a name again", []api.File{one("a", 1, 2), one("a", 0, 0)}, api.ErrRange},
		{"a name again, then a wrong name", []api.File{one("a", 0, 0), one("a", 0, 0), one("A", 0, 0)}, api.ErrThere},
		{"a wrong name, then a name again", []api.File{one("a", 0, 0), one("A", 0, 0), one("a", 0, 0)}, api.ErrName},
		{"a wrong name twice", []api.File{one("A", 0, 0), one("A", 0, 0)}, api.ErrName},
		{"a name again, then Synced", []api.File{one("a", 0, 0), one("a", 0, 0), one("b", 0, 1)}, api.ErrThere},
		// Full, behind all of that.
		{"too many, then a wrong name", full(one("A", 0, 0)), api.ErrName},
		{"too many, then a name again", full(one("f0", 0, 0)), api.ErrThere},
		{"too many, then Synced", full(one("b", 0, 1)), api.ErrRange},
		{"too long, then a wrong name", []api.File{long, one("A", 0, 0)}, api.ErrName},
		{"too long, then a name again", []api.File{long, one("l", 0, 0)}, api.ErrThere},
		{"too long, then Synced", []api.File{long, one("b", 0, -1)}, api.ErrRange},
		{"too long and Synced", []api.File{one("l", api.MaxDisk+1, api.MaxDisk+2)}, api.ErrRange},
		{"too long and a wrong name", []api.File{one("L", api.MaxDisk+1, 0)}, api.ErrName},
		{"too many and too long", full(long), api.ErrFull},
		{"too long, then others", []api.File{long, one("b", 0, 0)}, api.ErrFull},
	} {
		refused(t, x.why, x.l, x.want)
	}
}

func TestP4_3_Reads(t *testing.T) {
	d := load(t, file("b", "12", "3"), file("a", "", "xy"), file("c", "", ""))
	for _, x := range []struct{ name, want string }{{"a", "xy"}, {"b", "123"}, {"c", ""}} {
		if b, e := d.Read(x.name); string(b) != x.want || e != api.OK || !d.Has(x.name) {
			t.Errorf("Read(%s): %s, %d", x.name, b, e)
		}
	}
	for _, name := range append(wrongNames(), "d", "aa", "a.", "ab", strings.Repeat("a", api.MaxName)) {
		if b, e := d.Read(name); len(b) != 0 || e != api.ErrNone || d.Has(name) {
			t.Errorf("Read(%q): %s, %d", name, b, e)
		}
	}
	if l := d.List(); !slices.Equal(l, []string{"a", "b", "c"}) || d.Size() != 5 {
		t.Errorf("%v, %d", l, d.Size())
	}
	look(t, d, "a:|xy b:12|3 c:|")
}

func TestP4_3_NamesRise(t *testing.T) {
	want := rightNames()
	for i := range 20 {
		d := disk.New()
		for k := range want {
			name := want[(k*7+i)%len(want)]
			ok(t, d.Create(name), d.Append(name, []byte(name)))
		}
		var l []string
		for _, f := range d.Files() {
			l = append(l, f.Name)
			if string(f.Data) != f.Name || f.Synced != 0 {
				t.Errorf("%v", f)
			}
		}
		if !slices.Equal(d.List(), want) || !slices.Equal(l, want) {
			t.Fatalf("%v, %v", d.List(), l)
		}
	}
	// '-' is ahead of '.', that of the digits, those of the letters; a name is ahead of those that it begins.
	d := disk.New()
	for _, name := range []string{"ab", "a1", "a", "a.", "a-", "1", "b", ".", "a10", "a9"} {
		ok(t, d.Create(name))
	}
	if l := strings.Join(d.List(), " "); l != ". 1 a a- a. a1 a10 a9 ab b" {
		t.Errorf("%s", l)
	}
}

func TestP4_3_ReadsWhileDown(t *testing.T) {
	d := load(t, file("b", "12", "3"), file("a", "", "xy"))
	before := say(shown(d), d.List(), d.Size())
	d.Arm(1)
	told(t, d.Sync("a"), api.ErrDown)
	b, e := d.Read("b")
	if !d.Down() || say(shown(d), d.List(), d.Size()) != before || string(b) != "123" || e != api.OK || !d.Has("a") || d.Has("c") {
		t.Errorf("%s", state(d))
	}
	if b, e := d.Read("c"); len(b) != 0 || e != api.ErrNone {
		t.Errorf("%s, %d", b, e)
	}
}

func TestP4_3_ReadsAreNoWrites(t *testing.T) {
	d := load(t, file("a", "1", "2"))
	d.Arm(2)
	for range 10 {
		d.Read("a")
		d.Read("b")
		d.Has("a")
		d.List()
		d.Files()
		d.Size()
		d.Down()
	}
	ok(t, d.Sync("a"))
	told(t, d.Sync("a"), api.ErrDown)
}

func TestP4_3_Size(t *testing.T) {
	d := disk.New()
	for i, x := range []struct {
		call func() api.Errno
		want int
	}{
		{func() api.Errno { return d.Create("a") }, 0},
		{func() api.Errno { return d.Append("a", []byte("1234")) }, 4},
		{func() api.Errno { return d.Create("b") }, 4},
		{func() api.Errno { return d.Append("b", []byte("567")) }, 7},
		{func() api.Errno { return d.Sync("b") }, 7},
		{func() api.Errno { return d.Cut("a", 1) }, 4},
		{func() api.Errno { return d.Append("a", bytes.Repeat([]byte("x"), 1000)) }, 1004},
		{func() api.Errno { return d.Rename("b", "a") }, 3},
		{func() api.Errno { return d.Remove("a") }, 0},
	} {
		if e := x.call(); e != api.OK || d.Size() != x.want {
			t.Errorf("%d: %d, %d bytes; not %d", i, e, d.Size(), x.want)
		}
	}
}
