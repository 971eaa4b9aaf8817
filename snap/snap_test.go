package snap_test

import (
	"encoding/binary"
	"fmt"
	"hash/crc32"
	"math"
	"slices"
	"strings"
	"testing"

	"synod/api"
	"synod/disk"
	"synod/snap"
)

// What a snapshot's file has in it, by the library's means.

// numbers is numbers as bytes, one behind the other.
func numbers(list ...int) []byte {
	var b []byte
	for _, n := range list {
		b = binary.AppendUvarint(b, uint64(n))
	}
	return b
}

// text is a snapshot's text, laid a payload's frame, stored a snapshot's frame.
func text(s api.Snap) []byte { return join(numbers(s.Index, s.Term, len(s.Data)), s.Data) }

func laid(payload []byte) []byte {
	b := binary.LittleEndian.AppendUint32(nil, uint32(len(payload)))
	table := crc32.MakeTable(crc32.Castagnoli)
	sum := crc32.Update(crc32.Checksum(b, table), table, payload)
	return append(binary.LittleEndian.AppendUint32(b, sum), payload...)
}

func stored(s api.Snap) []byte { return laid(text(s)) }

// join is bytes one behind the other.
func join(pieces ...[]byte) []byte { return slices.Concat(pieces...) }

// of is a snapshot, of term 2.
func of(index int, data string) api.Snap { return api.Snap{Index: index, Term: 2, Data: []byte(data)} }

// name is the name of a snapshot's file.
func name(index int) string { return fmt.Sprintf("snap-%019d", index) }

// say is anything as text.
func say(x ...any) string { return fmt.Sprint(x...) }

// file is a file all of whose bytes are durable, loose one none of whose bytes are.
func file(name string, pieces ...[]byte) api.File {
	b := join(pieces...)
	return api.File{Name: name, Data: b, Synced: len(b)}
}

func loose(name string, pieces ...[]byte) api.File {
	return api.File{Name: name, Data: join(pieces...)}
}

// place is the file of a snapshot that is whole.
func place(s api.Snap) api.File { return file(name(s.Index), stored(s)) }

// load is a disk of files.
func load(t *testing.T, files ...api.File) *disk.Disk {
	t.Helper()
	d, e := disk.Load(files)
	if e != api.OK {
		t.Fatalf("Load: %d", e)
	}
	return d
}

// shown is files as text: the names, the durable bytes, and behind a bar the others.
func shown(files []api.File) string {
	var l []string
	for _, f := range files {
		l = append(l, fmt.Sprintf("%s:%.60q|%.60q (%d)", f.Name, f.Data[:f.Synced], f.Data[f.Synced:], len(f.Data)))
	}
	slices.Sort(l)
	return strings.Join(l, " ")
}

// holds holds a disk's files against those that are asked for.
func holds(t *testing.T, d *disk.Disk, files ...api.File) {
	t.Helper()
	if have, want := shown(d.Files()), shown(files); have != want {
		t.Errorf("the files are\n%s; not\n%s", have, want)
	}
}

// told holds an answer against the one that is asked for.
func told(t *testing.T, have, want api.Errno) {
	t.Helper()
	if have != want {
		t.Errorf("%d; not %d", have, want)
	}
}

// ok holds answers against OK.
func ok(t *testing.T, have ...api.Errno) {
	t.Helper()
	for i, e := range have {
		if e != api.OK {
			t.Errorf("answer %d is %d", i, e)
		}
	}
}

// kept holds an answer of Keep against the one that is asked for.
func kept(t *testing.T, d *disk.Disk, n, want int, e api.Errno) {
	t.Helper()
	if m, f := snap.Keep(d, n); m != want || f != e {
		t.Errorf("Keep(%d) is %d, %d; not %d, %d", n, m, f, want, e)
	}
}

// listed holds an answer of List against the one that is asked for.
func listed(t *testing.T, d *disk.Disk, want ...int) {
	t.Helper()
	if l := snap.List(d); !slices.Equal(l, want) {
		t.Errorf("List is %d; not %d", l, want)
	}
}

// answer is what Load answers, as text.
func answer(s api.Snap, passed int, e api.Errno) string {
	return fmt.Sprintf("{%d %d %.60q (%d)} %d %d", s.Index, s.Term, s.Data, len(s.Data), passed, e)
}

// loaded is what Load tells of a disk, as text.
func loaded(d *disk.Disk) string { return answer(snap.Load(d)) }

// tells holds an answer of Load against a snapshot, and how many were passed over; none holds it against ErrNone.
func tells(t *testing.T, d *disk.Disk, s api.Snap, passed int) {
	t.Helper()
	if have, want := loaded(d), answer(s, passed, api.OK); have != want {
		t.Errorf("Load is %s; not %s", have, want)
	}
}

func none(t *testing.T, d *disk.Disk) {
	t.Helper()
	if have, want := loaded(d), answer(api.Snap{}, 0, api.ErrNone); have != want {
		t.Errorf("Load is %s; not %s", have, want)
	}
}

// up holds that a disk is up, and not armed: its next write does.
func up(t *testing.T, d *disk.Disk) {
	t.Helper()
	if e := d.Create("probe"); e != api.OK || d.Remove("probe") != api.OK {
		t.Errorf("the disk isn't up: %d", e)
	}
}

func TestP6_1_Name(t *testing.T) {
	for _, x := range []struct {
		index int
		want  string
	}{
		{1, "snap-0000000000000000001"},
		{5, "snap-0000000000000000005"},
		{10, "snap-0000000000000000010"},
		{1234567890, "snap-0000000001234567890"},
		{999999999999999999, "snap-0999999999999999999"},
		{1000000000000000000, "snap-1000000000000000000"},
		{api.MaxIndex - 1, "snap-4611686018427387903"},
		{api.MaxIndex, "snap-4611686018427387904"},
	} {
		if s, e := snap.Name(x.index); s != x.want || e != api.OK {
			t.Errorf("Name(%d): %q, %d", x.index, s, e)
		}
		if n, ok := snap.Index(x.want); n != x.index || !ok {
			t.Errorf("Index(%q): %d, %t", x.want, n, ok)
		}
	}
}

func TestP6_1_WrongName(t *testing.T) {
	for _, n := range []int{0, -1, -5, api.MaxIndex + 1, math.MaxInt, math.MinInt, math.MinInt + 1} {
		if s, e := snap.Name(n); s != "" || e != api.ErrRange {
			t.Errorf("Name(%d): %q, %d", n, s, e)
		}
	}
}

// wrongNames are texts that are no names of snapshots' files; a disk may have files of some of them.
func wrongNames() []string {
	return []string{"", "snap", "snap-", snap.Temp, "5", "0000000000000000005", "-0000000000000000005",
		"snap-5", "snap-000000000000000005", "snap-00000000000000000005", "snap-000000000000000000005",
		"snap-0000000000000000000", "snap-4611686018427387905", "snap-9223372036854775807", "snap-9223372036854775808",
		"snap-9999999999999999999", "snap-8446744073709551621", "snap-18446744073709551621",
		"snap--000000000000000005", "snap-+000000000000000005", "snap- 000000000000000005", "snap-000000000000000005 ",
		"snap-000000000000000000x", "snap-x000000000000000005", "snap-0x00000000000000005", "snap-0b00000000000000001",
		"snap-0_0000000000000000_5", "snap-000000000000000_005", "snap-00000000000000005.0", "snap-000000000000000.005",
		"snap-00000000000000005e0", "snap-000000000000000005\x00", "snap-000000000000000005\n", "snap-000000000000000005/",
		"snap-000000000000000005:", "snap-0000000000000000٥", "snap-\xff000000000000000005", "SNAP-0000000000000000005",
		"snap_0000000000000000005", "snap.0000000000000000005", "snap0000000000000000005", "nap-0000000000000000005",
		"snap-snap-0000000000000000005", "snap-0000000000000000005-", "snap-0000000000000000005.tmp", " snap-0000000000000000005",
		"xsnap-0000000000000000005", "wal-00000005", "wal-0000000000000000005", strings.Repeat("0", 1<<16),
		"snap-" + strings.Repeat("0", 1<<16) + "5"}
}

func TestP6_1_NoIndex(t *testing.T) {
	for _, s := range wrongNames() {
		if n, ok := snap.Index(s); n != 0 || ok {
			t.Errorf("Index(%.40q): %d, %t", s, n, ok)
		}
	}
}

// Each byte of a name in the place of each other one: just digits are read, and those as what they say.
func TestP6_1_EachByte(t *testing.T) {
	for at := range len(name(5)) {
		for c := range 256 {
			b := []byte(name(5))
			b[at] = byte(c)
			var want int
			k, e := fmt.Sscanf(string(b), "snap-%d", &want)
			isName := k == 1 && e == nil && want >= 1 && want <= api.MaxIndex && name(want) == string(b)
			if !isName {
				want = 0
			}
			if n, ok := snap.Index(string(b)); n != want || ok != isName {
				t.Errorf("Index(%q): %d, %t", b, n, ok)
			}
		}
	}
}

// The examples of the chapter, one behind the other.
func TestP6_2_P6_3_P6_4_Examples(t *testing.T) {
	d := disk.New()
	none(t, d)
	listed(t, d)
	told(t, snap.Save(d, of(5, "ab")), api.OK)
	tells(t, d, of(5, "ab"), 0)
	listed(t, d, 5)
	told(t, snap.Save(d, api.Snap{}), api.ErrForm)
	told(t, snap.Save(d, api.Snap{Term: 1}), api.ErrRange)
	told(t, snap.Save(d, of(7, "x")), api.OK)
	ok(t, d.Cut(name(7), len(stored(of(7, "x")))-1))
	tells(t, d, of(5, "ab"), 1)
	kept(t, d, 1, 1, api.OK)
	listed(t, d, 7)
	kept(t, d, 0, 0, api.ErrRange)
	none(t, d)
}
