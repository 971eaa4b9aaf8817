package wal_test

import (
	"encoding/binary"
	"fmt"
	"hash/crc32"
	"slices"
	"strings"
	"testing"

	"synod/api"
	"synod/disk"
	"synod/wal"
)

// The texts of records, by the library's means.

// numbers is numbers as bytes, one behind the other.
func numbers(list ...int) []byte {
	var b []byte
	for _, n := range list {
		b = binary.AppendUvarint(b, uint64(n))
	}
	return b
}

// laid is a payload's frame.
func laid(payload []byte) []byte {
	b := binary.LittleEndian.AppendUint32(nil, uint32(len(payload)))
	table := crc32.MakeTable(crc32.Castagnoli)
	sum := crc32.Update(crc32.Checksum(b, table), table, payload)
	return append(binary.LittleEndian.AppendUint32(b, sum), payload...)
}

// head, state, entry and mark are records, in their frames.
func head(number int, s api.State, base, term int) []byte {
	return laid(numbers(0, number, s.Term, s.Vote, s.Commit, base, term))
}

func state(term, vote, commit int) []byte { return laid(numbers(1, term, vote, commit)) }

func entry(e api.Entry) []byte { return laid(entryText(e)) }

func entryText(e api.Entry) []byte {
	text := append(numbers(e.Term, e.Index, e.Kind, len(e.Data)), e.Data...)
	return append(numbers(2, len(text)), text...)
}

func mark(index, term int) []byte { return laid(numbers(3, index, term)) }

// join is bytes one behind the other.
func join(pieces ...[]byte) []byte { return slices.Concat(pieces...) }

// empty is an entry without data, command one with.
func empty(term, index int) api.Entry { return api.Entry{Term: term, Index: index} }

func command(term, index int, data string) api.Entry {
	return api.Entry{Term: term, Index: index, Kind: api.ECommand, Data: []byte(data)}
}

// entries is a batch of entries alone, marked one of a mark and entries, stated one of a state and entries.
func entries(l ...api.Entry) wal.Batch { return wal.Batch{Entries: l} }

func marked(index, term int, l ...api.Entry) wal.Batch {
	return wal.Batch{Index: index, Term: term, Entries: l}
}

func stated(term, vote, commit int, l ...api.Entry) wal.Batch {
	return wal.Batch{HasState: true, State: api.State{Term: term, Vote: vote, Commit: commit}, Entries: l}
}

// name is the name of a segment.
func name(n int) string { return fmt.Sprintf("wal-%08d", n) }

// say is anything as text.
func say(x ...any) string { return fmt.Sprint(x...) }

// shown is a view as text: state; base and its term; the entries' indices and terms, and the data of those that have any.
func shown(v wal.View) string {
	s := say(v.State.Term, v.State.Vote, v.State.Commit, ";", v.Base, v.BaseTerm, ";")
	for _, e := range v.Entries {
		s += fmt.Sprintf(" %d/%d", e.Index, e.Term)
		if e.Kind != api.EEmpty {
			s += fmt.Sprintf("=%.9s", e.Data)
		}
	}
	return s
}

// look holds a view, and the last index, against a text.
func look(t *testing.T, w *wal.Wal, want string) {
	t.Helper()
	v := w.View()
	if s := shown(v); s != want {
		t.Errorf("the view is %q; not %q", s, want)
	}
	index, term := v.Base, v.BaseTerm
	if n := len(v.Entries); n > 0 {
		index, term = v.Entries[n-1].Index, v.Entries[n-1].Term
	}
	if i, u := w.Last(); i != index || u != term {
		t.Errorf("the last is %d, %d; not %d, %d", i, u, index, term)
	}
}

// told holds an answer against the one that is asked for.
func told(t *testing.T, have, want api.Errno) {
	t.Helper()
	if have != want {
		t.Errorf("%d; not %d", have, want)
	}
}

// ok holds answers against OK.
func ok(t *testing.T, have ...api.Errno) {
	t.Helper()
	for i, e := range have {
		if e != api.OK {
			t.Errorf("answer %d is %d", i, e)
		}
	}
}

// file is a file all of whose bytes are durable.
func file(name string, pieces ...[]byte) api.File {
	b := join(pieces...)
	return api.File{Name: name, Data: b, Synced: len(b)}
}

// segment is a segment's file.
func segment(n int, pieces ...[]byte) api.File { return file(name(n), pieces...) }

// load is a disk of files.
func load(t *testing.T, files ...api.File) *disk.Disk {
	t.Helper()
	d, e := disk.Load(files)
	if e != api.OK {
		t.Fatalf("Load: %d", e)
	}
	return d
}

// filesOf is a disk's files as text.
func filesOf(d *disk.Disk) string {
	var l []string
	for _, f := range d.Files() {
		l = append(l, fmt.Sprintf("%s:%x|%x", f.Name, f.Data[:f.Synced], f.Data[f.Synced:]))
	}
	return strings.Join(l, " ")
}

// holds holds a disk's files against others, the durable bytes too.
func holds(t *testing.T, d *disk.Disk, files ...api.File) {
	t.Helper()
	if have, want := filesOf(d), filesOf(load(t, files...)); have != want {
		t.Errorf("the disk has\n%s; not\n%s", have, want)
	}
}

// opened is the wal of a disk; it is repaired, or not, as is asked for.
func opened(t *testing.T, d *disk.Disk, bytes int, repaired bool) *wal.Wal {
	t.Helper()
	w, r, e := wal.Open(d, bytes)
	if w == nil || e != api.OK {
		t.Fatalf("Open: %d", e)
	}
	if r != repaired {
		t.Errorf("Open: repaired is %t", r)
	}
	return w
}

// refused holds that Open of a disk answers this error, and nothing beside it.
func refused(t *testing.T, what string, d *disk.Disk, bytes int, want api.Errno) {
	t.Helper()
	if w, r, e := wal.Open(d, bytes); w != nil || r || e != want {
		t.Errorf("%s: Open is %v, %t, %d; not %d", what, w != nil, r, e, want)
	}
}

// begun is the chapter's first two entries and their state, synced: 57 bytes.
func begun(t *testing.T) (*disk.Disk, *wal.Wal) {
	t.Helper()
	d := disk.New()
	w := opened(t, d, 64, false)
	ok(t, w.Append(stated(1, 1, 0, empty(1, 1), command(1, 2, "ab"))), w.Sync())
	return d, w
}

// begunBytes is what stands then in the first segment.
func begunBytes() []byte {
	return join(head(1, api.State{}, 0, 0), state(1, 1, 0), entry(empty(1, 1)), entry(command(1, 2, "ab")))
}

// three is a wal of three segments with the entries 1 to 5, all synced: 1 and 2 in the first, 3 and 4 in the second, 5
// in the third.
func three(t *testing.T) (*disk.Disk, *wal.Wal) {
	t.Helper()
	d := disk.New()
	w := opened(t, d, 64, false)
	ok(t, w.Append(stated(1, 1, 0, command(1, 1, strings.Repeat("a", 40)), empty(1, 2))))
	ok(t, w.Append(entries(command(2, 3, strings.Repeat("b", 40)), empty(2, 4))))
	ok(t, w.Append(entries(empty(3, 5))), w.Sync())
	if l := w.Segments(); len(l) != 3 {
		t.Fatalf("%v", l)
	}
	return d, w
}

const threeView = "1 1 0;0 0; 1/1=aaaaaaaaa 2/1 3/2=bbbbbbbbb 4/2 5/3"

func TestP5_5_ViewAndLast(t *testing.T) {
	w := opened(t, disk.New(), 64, false)
	look(t, w, "0 0 0;0 0;")
	ok(t, w.Append(stated(3, 2, 0)))
	look(t, w, "3 2 0;0 0;")
	ok(t, w.Append(entries(empty(3, 1), command(3, 2, "x"))))
	look(t, w, "3 2 0;0 0; 1/3 2/3=x")
	ok(t, w.Append(marked(7, 4)))
	look(t, w, "3 2 0;7 4;")
	ok(t, w.Append(stated(5, 0, 8, empty(5, 8))))
	look(t, w, "5 0 8;7 4; 8/5")
}

func TestP5_5_SegmentsAndBytes(t *testing.T) {
	d := disk.New()
	w := opened(t, d, 64, false)
	sizes := []int{}
	for i := range 9 {
		ok(t, w.Append(entries(empty(1, i+1))))
		sizes = append(sizes, w.Bytes())
		if w.Bytes() != d.Size() || say(w.Segments()) != say(d.List()) {
			t.Errorf("%d, %v; the disk has %d, %v", w.Bytes(), w.Segments(), d.Size(), d.List())
		}
	}
	// A head of 15 bytes and four entries of 14 are 71: the next one goes into another segment.
	if say(sizes) != "[29 43 57 71 100 114 128 142 171]" {
		t.Errorf("%v", sizes)
	}
	if say(w.Segments()) != "[wal-00000001 wal-00000002 wal-00000003]" {
		t.Errorf("%v", w.Segments())
	}
	ok(t, d.Create("other"), d.Append("other", []byte("123")))
	if n, e := w.Compact(4); n != 1 || e != api.OK || w.Bytes() != 100 || say(w.Segments()) != "[wal-00000002 wal-00000003]" {
		t.Errorf("%d, %d: %d, %v", n, e, w.Bytes(), w.Segments())
	}
	again := opened(t, d, 1000, false)
	if again.Bytes() != 100 || say(again.Segments()) != "[wal-00000002 wal-00000003]" {
		t.Errorf("%d, %v", again.Bytes(), again.Segments())
	}
}

func TestP5_5_Name(t *testing.T) {
	for n, want := range map[int]string{
		1: "wal-00000001", 7: "wal-00000007", 10: "wal-00000010", 12345678: "wal-12345678", 99999998: "wal-99999998", 99999999: "wal-99999999",
	} {
		if s, e := wal.Name(n); s != want || e != api.OK {
			t.Errorf("Name(%d) = %s, %d", n, s, e)
		}
		if m, is := wal.Number(want); m != n || !is {
			t.Errorf("Number(%s) = %d, %t", want, m, is)
		}
	}
	for _, n := range []int{0, -1, -99999999, 100000000, 1 << 40, api.MaxIndex, -1 << 63, 1<<63 - 1} {
		if s, e := wal.Name(n); s != "" || e != api.ErrRange {
			t.Errorf("Name(%d) = %s, %d", n, s, e)
		}
	}
}

// wrongNames are names of no segment, though near to one; those that a disk may have.
func wrongNames() []string {
	return []string{"wal-7", "wal-00000000", "wal-100000000", "wal-000000001", "wal-0000001", "wal-0000000a", "wal-0000000-", "wal--0000001",
		"wal-", "wal", "wam-00000001", "xwal-00000001", "wal-00000001.", "wal.00000001", "00000001", "wal-00000001wal-00000001"}
}

func TestP5_5_Number(t *testing.T) {
	for _, s := range append(wrongNames(), "", "WAL-00000001", "wal-+0000001", "wal- 0000001", "wal-00000001 ", "wal-0000000\x00", "wal-0000000０", "wal-１０", "wal-0x000001",
		"wal-1e000000", "wal-00_00001", "wal-0000000:", "wal-0000000/", strings.Repeat("wal-00000001", 1000)) {
		if n, is := wal.Number(s); n != 0 || is {
			t.Errorf("Number(%q) = %d, %t", s, n, is)
		}
	}
	for n := 1; n <= 99999999; n += 1 + n/3 {
		if m, is := wal.Number(name(n)); m != n || !is {
			t.Errorf("Number(%s) = %d, %t", name(n), m, is)
		}
		if s, e := wal.Name(n); s != name(n) || e != api.OK {
			t.Errorf("Name(%d) = %s, %d", n, s, e)
		}
	}
}

// The chapter's first table.
func TestP5_5_Examples(t *testing.T) {
	d, w := begun(t)
	told(t, w.Append(entries(empty(1, 4))), api.ErrGap)
	told(t, w.Append(marked(0, 1)), api.ErrRange)
	told(t, w.Append(entries(empty(0, 3))), api.ErrRange)
	for _, keep := range []int{0, 5} {
		ok(t, w.Append(entries(empty(2, 2))))
		d.Crash(keep)
		w = opened(t, d, 64, keep == 5)
		look(t, w, "1 1 0;0 0; 1/1 2/1=ab")
	}
	ok(t, w.Append(marked(9, 3, empty(3, 10))))
	look(t, w, "1 1 0;9 3; 10/3")
	if n, e := w.Compact(11); n != 0 || e != api.ErrRange {
		t.Errorf("%d, %d", n, e)
	}
	if n, e := w.Compact(10); n != 0 || e != api.OK {
		t.Errorf("%d, %d", n, e)
	}
	ok(t, w.Append(entries(empty(3, 11))))
	if say(w.Segments()) != "[wal-00000001 wal-00000002]" {
		t.Errorf("%v", w.Segments())
	}
	if n, e := w.Compact(10); n != 1 || e != api.OK || say(w.Segments()) != "[wal-00000002]" {
		t.Errorf("%d, %d, %v", n, e, w.Segments())
	}
	look(t, w, "1 1 0;10 3; 11/3")
}
