package wal_test

import (
	"bytes"
	"math"
	"strings"
	"testing"

	"synod/api"
	"synod/disk"
	"synod/wal"
)

var none = api.State{}

// begin is the head of a first segment of the number 1.
func begin() []byte { return head(1, none, 0, 0) }

func TestP5_1_Opts(t *testing.T) {
	for _, n := range []int{math.MinInt, -64, -1, 0, 1, 63, api.MaxFrame + 1, 2 * api.MaxFrame, math.MaxInt} {
		d := disk.New()
		refused(t, say(n), d, n, api.ErrOpts)
		holds(t, d)
		// It goes ahead of all else.
		gap := load(t, segment(1, begin()), segment(3, begin()))
		refused(t, say(n), gap, n, api.ErrOpts)
		torn := load(t, segment(1, begin(), []byte{1}))
		refused(t, say(n), torn, n, api.ErrOpts)
		holds(t, torn, segment(1, begin(), []byte{1}))
		d.Arm(1)
		d.Create("a")
		refused(t, say(n), d, n, api.ErrOpts)
	}
	for _, n := range []int{64, 65, 4096, api.MaxFrame - 1, api.MaxFrame} {
		w := opened(t, disk.New(), n, false)
		look(t, w, "0 0 0;0 0;")
	}
}

func TestP5_1_NoSegment(t *testing.T) {
	d := disk.New()
	w := opened(t, d, 64, false)
	holds(t, d, segment(1, begin()))
	look(t, w, "0 0 0;0 0;")
	if w.Bytes() != 15 || say(w.Segments()) != "[wal-00000001]" {
		t.Errorf("%d, %v", w.Bytes(), w.Segments())
	}
}

// Files with other names are no segments, whatever stands in them.
func TestP5_1_OtherFiles(t *testing.T) {
	others := []api.File{file("snap.tmp", begin()), file("a"), {Name: "zz", Data: []byte("123"), Synced: 1}}
	for i, s := range wrongNames() {
		if len(s) <= api.MaxName {
			others = append(others, file(s, []byte(strings.Repeat("x", i))))
		}
	}
	for _, own := range [][]api.File{nil, {segment(1, begin())}, {segment(7, head(7, none, 0, 0)), segment(8, head(8, none, 0, 0))}} {
		d := load(t, append(others, own...)...)
		opened(t, d, 64, false)
		if own == nil {
			own = []api.File{segment(1, begin())}
		}
		holds(t, d, append(others, own...)...)
	}
}

// effects are records behind a head of 3 1 0, base 4 2, and the view that they leave.
var effects = []struct {
	records [][]byte
	want    string
}{
	{nil, "3 1 0;4 2;"},
	{[][]byte{state(5, 0, 9)}, "5 0 9;4 2;"},
	{[][]byte{state(5, 0, 9), state(1, 0, 0)}, "1 0 0;4 2;"},
	{[][]byte{state(0, 0, 0)}, "0 0 0;4 2;"},
	{[][]byte{state(1, 7, 0)}, "1 7 0;4 2;"},
	{[][]byte{state(api.MaxIndex, 7, api.MaxIndex)}, say(api.MaxIndex, 7, api.MaxIndex) + ";4 2;"},
	// One above the last.
	{[][]byte{entry(empty(2, 5))}, "3 1 0;4 2; 5/2"},
	{[][]byte{entry(empty(2, 5)), entry(command(3, 6, "xy")), entry(empty(3, 7))}, "3 1 0;4 2; 5/2 6/3=xy 7/3"},
	// Terms may fall: nobody asks for their order here.
	{[][]byte{entry(empty(9, 5)), entry(empty(1, 6))}, "3 1 0;4 2; 5/9 6/1"},
	// At the last, within.
	{[][]byte{entry(empty(2, 5)), entry(empty(3, 5))}, "3 1 0;4 2; 5/3"},
	{[][]byte{entry(empty(2, 5)), entry(empty(2, 6)), entry(empty(3, 6))}, "3 1 0;4 2; 5/2 6/3"},
	{[][]byte{entry(empty(2, 5)), entry(empty(2, 6)), entry(empty(2, 7)), entry(command(3, 6, "z"))}, "3 1 0;4 2; 5/2 6/3=z"},
	{[][]byte{entry(empty(2, 5)), entry(empty(2, 6)), entry(empty(2, 7)), entry(empty(3, 5)), entry(empty(3, 6))}, "3 1 0;4 2; 5/3 6/3"},
	// At the base and below it.
	{[][]byte{entry(empty(2, 5)), entry(empty(3, 4))}, "3 1 0;3 0; 4/3"},
	{[][]byte{entry(empty(3, 4)), entry(empty(3, 5))}, "3 1 0;3 0; 4/3 5/3"},
	{[][]byte{entry(empty(2, 5)), entry(empty(2, 6)), entry(empty(3, 2)), entry(empty(4, 3))}, "3 1 0;1 0; 2/3 3/4"},
	{[][]byte{entry(empty(2, 5)), entry(empty(3, 1))}, "3 1 0;0 0; 1/3"},
	{[][]byte{entry(empty(3, 3)), entry(empty(3, 2)), entry(empty(3, 1))}, "3 1 0;0 0; 1/3"},
	// Marks that the view has: as its base, as an entry.
	{[][]byte{mark(4, 2)}, "3 1 0;4 2;"},
	{[][]byte{entry(empty(2, 5)), mark(4, 2)}, "3 1 0;4 2; 5/2"},
	{[][]byte{entry(empty(2, 5)), entry(empty(3, 6)), mark(5, 2), mark(6, 3)}, "3 1 0;4 2; 5/2 6/3"},
	// Marks that it hasn't: another term, another index, above the last, below the base.
	{[][]byte{mark(4, 3)}, "3 1 0;4 3;"},
	{[][]byte{entry(empty(2, 5)), mark(4, 1)}, "3 1 0;4 1;"},
	{[][]byte{entry(empty(2, 5)), entry(empty(2, 6)), mark(5, 3)}, "3 1 0;5 3;"},
	{[][]byte{entry(empty(2, 5)), mark(6, 2)}, "3 1 0;6 2;"},
	{[][]byte{entry(empty(2, 5)), mark(api.MaxIndex, api.MaxIndex)}, "3 1 0;" + say(api.MaxIndex, api.MaxIndex) + ";"},
	{[][]byte{entry(empty(2, 5)), mark(3, 2)}, "3 1 0;3 2;"},
	{[][]byte{entry(empty(2, 5)), mark(1, 1), entry(empty(2, 2))}, "3 1 0;1 1; 2/2"},
	{[][]byte{entry(empty(3, 4)), mark(3, 1), entry(empty(3, 4))}, "3 1 0;3 1; 4/3"},
	{[][]byte{mark(9, 3), entry(empty(3, 10)), mark(9, 3), entry(empty(3, 11))}, "3 1 0;9 3; 10/3 11/3"},
	{[][]byte{mark(9, 3), entry(empty(3, 10)), mark(10, 3), entry(empty(3, 9))}, "3 1 0;8 0; 9/3"},
	{[][]byte{mark(api.MaxIndex-1, 1), entry(empty(1, api.MaxIndex)), entry(empty(2, api.MaxIndex))}, "3 1 0;" + say(api.MaxIndex-1, 1) + "; " + say(api.MaxIndex) + "/2"},
}

func TestP5_1_Records(t *testing.T) {
	first := head(1, api.State{Term: 3, Vote: 1}, 4, 2)
	for i, x := range effects {
		b := join(append([][]byte{first}, x.records...)...)
		d := load(t, api.File{Name: name(1), Data: b, Synced: i % len(b)})
		w := opened(t, d, 64, false)
		look(t, w, x.want)
		// What was read is durable from now on.
		holds(t, d, segment(1, b))
		if w.Bytes() != len(b) {
			t.Errorf("%d: %d bytes; not %d", i, w.Bytes(), len(b))
		}
	}
}

// A record in the segment behind says the same as in the one ahead; the heads between them repeat the view.
func TestP5_1_Several(t *testing.T) {
	for i, x := range effects {
		first := head(1, api.State{Term: 3, Vote: 1}, 4, 2)
		files := []api.File{segment(1, first)}
		for j, r := range x.records {
			// What a wal tells of those ahead is what the next head has to say.
			w := opened(t, load(t, files...), 64, false)
			last, term := w.Last()
			files = append(files, segment(j+2, head(j+2, w.View().State, last, term), r))
		}
		w := opened(t, load(t, files...), 64, false)
		look(t, w, x.want)
		if len(w.Segments()) != len(files) {
			t.Errorf("%d: %v", i, w.Segments())
		}
	}
}

// The last segment alone is synced.
func TestP5_1_SyncsTheLast(t *testing.T) {
	one := api.File{Name: name(4), Data: join(head(4, none, 0, 0), state(1, 1, 0)), Synced: 16}
	two := api.File{Name: name(5), Data: join(head(5, api.State{Term: 1, Vote: 1}, 0, 0), entry(empty(1, 1))), Synced: 3}
	d := load(t, one, two)
	look(t, opened(t, d, 64, false), "1 1 0;0 0; 1/1")
	two.Synced = len(two.Data)
	holds(t, d, one, two)
	d = load(t, one, api.File{Name: name(5)})
	look(t, opened(t, d, 64, true), "1 1 0;0 0;")
	one.Synced = len(one.Data)
	holds(t, d, one)
}

func TestP5_1_OneByOne(t *testing.T) {
	bare := func(numbers ...int) []api.File {
		var l []api.File
		for _, n := range numbers {
			l = append(l, segment(n, head(n, none, 0, 0)))
		}
		return l
	}
	for _, x := range [][]int{{1, 3}, {1, 2, 4}, {1, 3, 4}, {2, 4}, {1, 99999999}, {99999997, 99999999}, {5, 6, 8, 9}} {
		d := load(t, bare(x...)...)
		refused(t, say(x), d, 64, api.ErrCorrupt)
		holds(t, d, bare(x...)...)
	}
	for _, x := range [][]int{{1}, {2}, {1, 2}, {2, 3}, {9, 10, 11}, {99, 100}, {99999999}, {99999998, 99999999}} {
		d := load(t, bare(x...)...)
		w := opened(t, d, 64, false)
		holds(t, d, bare(x...)...)
		if len(w.Segments()) != len(x) || w.Segments()[0] != name(x[0]) {
			t.Errorf("%v: %v", x, w.Segments())
		}
	}
	// It goes ahead of what stands in them: nothing is cut.
	torn := append(bare(1), segment(3, []byte{1}))
	d := load(t, torn...)
	refused(t, "torn", d, 64, api.ErrCorrupt)
	holds(t, d, torn...)
	d = load(t, segment(1), segment(3))
	refused(t, "empty", d, 64, api.ErrCorrupt)
	holds(t, d, segment(1), segment(3))
}

// tears are bytes behind a segment's whole frames that are none, one for each error of a frame.
func tears() [][]byte {
	spoilt := state(1, 1, 0)
	spoilt[9] ^= 1
	return [][]byte{{0}, {1, 2, 3}, {4, 0, 0, 0, 9}, state(1, 1, 0)[:11], entry(empty(1, 1))[:8], {0xff, 0xff, 0xff, 0xff, 0}, {1, 0, 16, 0}, spoilt,
		join(spoilt, state(1, 1, 0)), make([]byte, 8)}
}

func TestP5_1_TornBehindRecords(t *testing.T) {
	for i, tear := range tears() {
		// Behind the head, behind a record; the only segment, and the last one of two.
		whole := join(begin(), state(1, 1, 0))
		second := head(2, api.State{Term: 1, Vote: 1}, 0, 0)
		for _, x := range []struct {
			ahead []api.File
			last  api.File
			want  string
		}{
			{nil, segment(1, begin()), "0 0 0;0 0;"},
			{nil, segment(1, whole, entry(empty(1, 1))), "1 1 0;0 0; 1/1"},
			{[]api.File{segment(1, whole)}, segment(2, second), "1 1 0;0 0;"},
			{[]api.File{segment(1, whole)}, segment(2, second, entry(empty(1, 1))), "1 1 0;0 0; 1/1"},
		} {
			torn := x.last
			torn.Data = join(torn.Data, tear)
			torn.Synced = i % len(torn.Data)
			d := load(t, append(x.ahead, torn)...)
			w := opened(t, d, 64, true)
			look(t, w, x.want)
			holds(t, d, append(x.ahead, x.last)...)
			if w.Bytes() != d.Size() {
				t.Errorf("%d: %d bytes; not %d", i, w.Bytes(), d.Size())
			}
			// It is mended for good, and goes on.
			ok(t, w.Append(entries(empty(1, 1))), w.Sync())
			look(t, opened(t, d, 64, false), shown(w.View()))
		}
	}
}

func TestP5_1_TornHead(t *testing.T) {
	ahead := segment(1, begin(), state(1, 1, 0))
	second := head(2, api.State{Term: 1, Vote: 1}, 0, 0)
	for n := range 15 {
		d := load(t, segment(1, begin()[:n]))
		look(t, opened(t, d, 64, true), "0 0 0;0 0;")
		holds(t, d, segment(1, begin()))
		d = load(t, ahead, segment(2, second[:n]))
		w := opened(t, d, 64, true)
		look(t, w, "1 1 0;0 0;")
		holds(t, d, ahead)
		if say(w.Segments()) != "[wal-00000001]" || w.Bytes() != 27 {
			t.Errorf("%v, %d", w.Segments(), w.Bytes())
		}
		for _, number := range []int{2, 3, 99999999} {
			refused(t, "the only one", load(t, segment(number, head(number, none, 0, 0)[:min(n, 14)])), 64, api.ErrCorrupt)
		}
	}
	for i, tear := range tears() {
		d := load(t, segment(1, tear))
		look(t, opened(t, d, 64, true), "0 0 0;0 0;")
		holds(t, d, segment(1, begin()))
		d = load(t, ahead, segment(2, tear))
		look(t, opened(t, d, 64, true), "1 1 0;0 0;")
		holds(t, d, ahead)
		refused(t, say(i), load(t, segment(2, tear)), 64, api.ErrCorrupt)
	}
}

// Behind a last segment that was taken away the one ahead of it is the last: what follows stands there, or in a new one.
func TestP5_1_GoesOnBehindARemovedOne(t *testing.T) {
	ahead := segment(1, begin(), state(1, 1, 0))
	d := load(t, ahead, segment(2))
	w := opened(t, d, 64, true)
	ok(t, w.Append(entries(empty(1, 1))))
	holds(t, d, api.File{Name: name(1), Data: join(ahead.Data, entry(empty(1, 1))), Synced: 27})
	full := segment(1, begin(), entry(command(1, 1, strings.Repeat("x", 40))))
	d = load(t, full, segment(2, head(2, none, 1, 1)[:4]))
	w = opened(t, d, 64, true)
	ok(t, w.Append(entries(empty(1, 2))))
	second := join(head(2, none, 1, 1), entry(empty(1, 2)))
	holds(t, d, full, api.File{Name: name(2), Data: second, Synced: 15})
}

func TestP5_1_EarlierOnes(t *testing.T) {
	second := segment(2, head(2, none, 0, 0))
	for i, tear := range append(tears(), nil) {
		for _, first := range []api.File{segment(1, tear), segment(1, begin(), tear)} {
			if i == len(tears()) && len(first.Data) > 0 {
				continue // This one is whole.
			}
			for _, rest := range [][]api.File{{second}, {segment(2)}, {segment(2, []byte{7})}, {second, segment(3, head(3, none, 0, 0))}} {
				files := append([]api.File{first}, rest...)
				d := load(t, files...)
				refused(t, say(i), d, 64, api.ErrCorrupt)
				holds(t, d, files...)
			}
		}
	}
	// Two empty ones at the end: only one of them is the last.
	d := load(t, segment(1, begin()), segment(2), segment(3))
	refused(t, "two empty ones", d, 64, api.ErrCorrupt)
	holds(t, d, segment(1, begin()), segment(2), segment(3))
}

// wrongTexts are payloads of no record.
func wrongTexts() [][]byte {
	above := api.MaxIndex + 1
	long := api.Entry{Term: 1, Index: 1, Kind: api.ECommand, Data: make([]byte, api.MaxData+1)}
	longer := api.Entry{Term: 1, Index: 1, Kind: api.ECommand, Data: make([]byte, 2*api.MaxData)}
	framed := append(numbers(2, 2*api.MaxData+1), make([]byte, 2*api.MaxData+1)...)
	return [][]byte{
		nil, {4}, {5}, {0x80}, {0x80, 0}, numbers(above), {0xff, 0xff}, numbers(4, 1, 1, 0), numbers(api.MaxIndex, 1, 0, 0),
		// States: out of range, refused, short, with bytes left, in another form.
		numbers(1, above, 0, 0), numbers(1, 1, 8, 0), numbers(1, 1, above, 0), numbers(1, 1, 0, above), numbers(1, 0, 1, 0), numbers(1, 0, 7, 5),
		numbers(1), numbers(1, 1), numbers(1, 1, 1), numbers(1, 1, 1, 0, 0), numbers(1, 3, 1, 1, 0), append(numbers(1, 1, 1), 0x80, 0), {1, 0x81, 0, 0, 0},
		// Entries.
		entryText(empty(0, 1)), entryText(empty(1, 0)), entryText(empty(above, 1)), entryText(empty(1, above)),
		entryText(api.Entry{Term: 1, Index: 1, Kind: 2}), entryText(api.Entry{Term: 1, Index: 1, Data: []byte("a")}), entryText(long), entryText(longer), framed,
		{2}, {2, 0}, {2, 4, 1, 1, 0}, {2, 3, 1, 1, 0}, {2, 5, 1, 1, 0, 0, 0}, {2, 4, 1, 1, 0, 0, 0}, {2, 4, 1, 1, 0, 1}, {2, 1, 1, 0, 0}, {2, 6, 1, 1, 1, 3, 97, 98},
		// Marks.
		numbers(3, 0, 1), numbers(3, 1, 0), numbers(3, 0, 0), numbers(3, above, 1), numbers(3, 1, above), numbers(3), numbers(3, 1), numbers(3, 1, 1, 1), {3, 1, 0x80}, {3, 0x81, 0, 1},
	}
}

func TestP5_1_WrongRecords(t *testing.T) {
	for _, x := range wrongTexts() {
		wrong := laid(x)
		for i, files := range [][]api.File{
			{segment(1, begin(), wrong)},
			{segment(1, wrong)},
			{segment(1, begin(), state(1, 1, 0), wrong, entry(empty(1, 1)))},
			{segment(1, begin(), wrong), segment(2, head(2, none, 0, 0))},
			{segment(1, begin(), wrong), segment(2)},
			{segment(1, begin()), segment(2, head(2, none, 0, 0), wrong)},
			{segment(1, begin()), segment(2, wrong)},
		} {
			d := load(t, files...)
			refused(t, say(x[:min(len(x), 20)], " ", i), d, 64, api.ErrCorrupt)
			holds(t, d, files...)
		}
	}
}

func TestP5_1_WrongHeads(t *testing.T) {
	s := api.State{Term: 2, Vote: 1, Commit: 1}
	above := api.MaxIndex + 1
	for i, x := range [][]byte{
		// Another segment's.
		head(0, none, 0, 0), head(2, none, 0, 0), head(above, none, 0, 0), head(api.MaxIndex, none, 0, 0),
		// A state that may not be, a number out of range.
		head(1, api.State{Vote: 1}, 0, 0), head(1, api.State{Term: 1, Vote: 8}, 0, 0), head(1, api.State{Term: above}, 0, 0), head(1, api.State{Commit: above}, 0, 0),
		head(1, none, above, 1), head(1, none, 1, above),
		// Short, with bytes left.
		laid(numbers(0)), laid(numbers(0, 1)), laid(numbers(0, 1, 0, 0, 0, 0)), laid(numbers(0, 1, 0, 0, 0, 0, 0, 0)), laid(append(numbers(0, 1, 0, 0, 0, 0), 0x80)),
		// None at all.
		state(1, 1, 0), entry(empty(1, 1)), mark(1, 1),
	} {
		for _, rest := range [][]byte{nil, begin(), state(1, 1, 0)} {
			refused(t, say(i), load(t, segment(1, x, rest)), 64, api.ErrCorrupt)
		}
	}
	// A head behind the first record.
	for i, x := range [][][]byte{{begin(), begin()}, {begin(), state(2, 1, 1), begin()}, {begin(), state(2, 1, 1), head(1, s, 0, 0)}, {begin(), head(2, none, 0, 0)}} {
		refused(t, say("twice ", i), load(t, segment(1, x...)), 64, api.ErrCorrupt)
	}
	// Any base, any term.
	for _, x := range [][2]int{{0, 0}, {5, 0}, {0, 5}, {5, 5}, {api.MaxIndex, api.MaxIndex}} {
		look(t, opened(t, load(t, segment(3, head(3, s, x[0], x[1]))), 64, false), "2 1 1;"+say(x[0], x[1])+";")
	}
}

// Each other head has to say what was read ahead of it.
func TestP5_1_HeadsOfAnotherView(t *testing.T) {
	s := api.State{Term: 2, Vote: 1, Commit: 1}
	first := segment(1, begin(), state(2, 1, 1), entry(empty(1, 1)), entry(empty(2, 2)))
	opened(t, load(t, first, segment(2, head(2, s, 2, 2))), 64, false)
	for i, x := range [][]byte{
		head(2, api.State{Term: 3, Vote: 1, Commit: 1}, 2, 2), head(2, api.State{Term: 2, Vote: 2, Commit: 1}, 2, 2), head(2, api.State{Term: 2, Vote: 1, Commit: 2}, 2, 2),
		head(2, none, 2, 2), head(2, s, 1, 2), head(2, s, 3, 2), head(2, s, 2, 1), head(2, s, 2, 0), head(2, s, 0, 0), head(2, s, 1, 1),
		head(1, s, 2, 2), head(3, s, 2, 2),
	} {
		refused(t, say(i), load(t, first, segment(2, x)), 64, api.ErrCorrupt)
		refused(t, say(i), load(t, first, segment(2, x, []byte{1})), 64, api.ErrCorrupt)
		refused(t, say(i), load(t, first, segment(2, x), segment(3, head(3, s, 2, 2))), 64, api.ErrCorrupt)
	}
	// Without entries it is the base and its term.
	first = segment(1, head(1, s, 7, 2))
	opened(t, load(t, first, segment(2, head(2, s, 7, 2))), 64, false)
	refused(t, "the base's term", load(t, first, segment(2, head(2, s, 7, 0))), 64, api.ErrCorrupt)
	refused(t, "the base", load(t, first, segment(2, head(2, s, 0, 2))), 64, api.ErrCorrupt)
}

func TestP5_1_Gaps(t *testing.T) {
	for i, x := range [][][]byte{
		{begin(), entry(empty(1, 2))},
		{begin(), entry(empty(1, api.MaxIndex))},
		{begin(), entry(empty(1, 1)), entry(empty(1, 3))},
		{begin(), entry(empty(1, 1)), entry(empty(1, 2)), entry(empty(1, 1)), entry(empty(1, 3))},
		{head(1, none, 4, 1), entry(empty(1, 6))},
		{head(1, none, 4, 1), entry(empty(1, 2)), entry(empty(1, 4))},
		{begin(), mark(5, 1), entry(empty(1, 7))},
		{begin(), entry(empty(1, 1)), entry(empty(1, 2)), mark(1, 2), entry(empty(1, 3))},
	} {
		d := load(t, segment(1, x...))
		refused(t, say(i), d, 64, api.ErrCorrupt)
		holds(t, d, segment(1, x...))
	}
}

// A last segment is cut ahead of the look at its records: the cut stays.
func TestP5_1_CutAndCorrupt(t *testing.T) {
	for i, x := range [][]byte{join(begin(), begin()), join(begin(), entry(empty(1, 2))), state(1, 1, 0), head(2, none, 0, 0)} {
		d := load(t, segment(1, x, []byte{1, 2}))
		refused(t, say(i), d, 64, api.ErrCorrupt)
		holds(t, d, segment(1, x))
		// With a disk that is down, the cut has the first word.
		d = load(t, segment(1, x, []byte{1, 2}))
		d.Arm(1)
		refused(t, say(i), d, 64, api.ErrDown)
		holds(t, d, segment(1, x, []byte{1, 2}))
		refused(t, say(i), d, 64, api.ErrDown)
	}
	d := load(t, segment(2, []byte{1, 2}))
	refused(t, "the only one", d, 64, api.ErrCorrupt)
	holds(t, d, segment(2))
	// Ahead of the last one it isn't.
	d = load(t, segment(1, begin(), begin()), segment(2, []byte{1}))
	refused(t, "an earlier one", d, 64, api.ErrCorrupt)
	holds(t, d, segment(1, begin(), begin()), segment(2, []byte{1}))
}

// Each write of Open fails: there are so many, and what was done ahead of it stays.
func TestP5_1_EachWriteFails(t *testing.T) {
	first, bare := segment(1, begin(), state(1, 1, 0)), segment(1, begin())
	second := head(2, api.State{Term: 1, Vote: 1}, 0, 0)
	soft := func(f api.File, synced int) api.File {
		f.Synced = synced
		return f
	}
	for i, x := range []struct {
		files []api.File
		steps [][]api.File // what the disk has where this one fails
	}{
		{nil, [][]api.File{nil, {soft(segment(1, begin()[:7]), 0)}, {soft(bare, 0)}}},
		{[]api.File{soft(first, 20)}, [][]api.File{{soft(first, 20)}}},
		{[]api.File{soft(segment(1, first.Data, []byte{1}), 20)}, [][]api.File{{soft(segment(1, first.Data, []byte{1}), 20)}, {soft(first, 20)}}},
		{[]api.File{segment(1)}, [][]api.File{{soft(segment(1, begin()[:7]), 0)}, {soft(bare, 0)}, {bare}}},
		{[]api.File{segment(1, begin()[:9])}, [][]api.File{{segment(1, begin()[:9])}, {soft(segment(1, begin()[:7]), 0)}, {soft(bare, 0)}, {bare}}},
		{[]api.File{first, segment(2)}, [][]api.File{{first, segment(2)}, {first}}},
		{[]api.File{first, segment(2, second[:9])}, [][]api.File{{first, segment(2, second[:9])}, {first, segment(2)}, {first}}},
		{[]api.File{first, soft(segment(2, second), 0)}, [][]api.File{{first, soft(segment(2, second), 0)}}},
	} {
		for n, files := range x.steps {
			d := load(t, x.files...)
			d.Arm(n + 1)
			refused(t, say(i, " ", n), d, 64, api.ErrDown)
			holds(t, d, files...)
			// While it is down nothing is done.
			refused(t, say(i, " ", n), d, 64, api.ErrDown)
			holds(t, d, files...)
			for _, keep := range []int{0, 3, 99} {
				again := load(t, x.files...)
				again.Arm(n + 1)
				wal.Open(again, 64)
				again.Crash(keep)
				if w, _, e := wal.Open(again, 64); w == nil || e != api.OK {
					t.Errorf("%d, %d: behind a crash that keeps %d: %d", i, n, keep, e)
				}
			}
		}
		d := load(t, x.files...)
		d.Arm(len(x.steps) + 1)
		if _, _, e := wal.Open(d, 64); e != api.OK || d.Down() {
			t.Errorf("%d: more than %d writes: %d", i, len(x.steps), e)
		}
	}
}

func TestP5_1_DiskErrors(t *testing.T) {
	// No room for another file.
	var files []api.File
	for i := range api.MaxFiles {
		files = append(files, file(say("f", i)))
	}
	refused(t, "256 files", load(t, files...), 64, api.ErrFull)
	opened(t, load(t, files[1:]...), 64, false)
	// No room for the head: the file stays.
	great := file("a", bytes.Repeat([]byte("x"), api.MaxDisk-14))
	d := load(t, great)
	refused(t, "no room", d, 64, api.ErrFull)
	if say(d.List()) != "[a wal-00000001]" || d.Size() != api.MaxDisk-14 {
		t.Errorf("%v, %d", d.List(), d.Size())
	}
	great.Data = great.Data[1:]
	great.Synced--
	opened(t, load(t, great), 64, false)
	// A disk that is down tells what it has: what is wrong there goes ahead.
	d = load(t, segment(1, begin(), begin()), file("a"))
	d.Arm(1)
	d.Remove("a")
	refused(t, "corrupt and down", d, 64, api.ErrCorrupt)
	d = load(t, segment(1, begin()), file("a"))
	d.Arm(1)
	d.Remove("a")
	refused(t, "down", d, 64, api.ErrDown)
}
