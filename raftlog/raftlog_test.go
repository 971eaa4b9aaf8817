package raftlog_test

import (
	"bytes"
	"fmt"
	"math"
	"strconv"
	"strings"
	"testing"

	"synod/api"
	"synod/raftlog"
)

const top = api.MaxIndex

// far are numbers that lie far out of range.
func far() []int {
	return []int{math.MinInt, math.MinInt + 1, -top, -1, top + 1, 2*top - 1, math.MaxInt - 1, math.MaxInt}
}

// empty is an entry without data, command one with.
func empty(term, index int) api.Entry { return api.Entry{Term: term, Index: index} }

func command(term, index int, data string) api.Entry {
	return api.Entry{Term: term, Index: index, Kind: api.ECommand, Data: []byte(data)}
}

// many is a number of entries from an index on, all of one term.
func many(n, term, index int) []api.Entry {
	l := make([]api.Entry, n)
	for i := range l {
		l[i] = empty(term, index+i)
	}
	return l
}

// of is entries from an index on, of these terms.
func of(index int, terms ...int) []api.Entry {
	var l []api.Entry
	for i, term := range terms {
		l = append(l, command(term, index+i, fmt.Sprint(term, ".", index+i)))
	}
	return l
}

// say is anything as text, with a blank between.
func say(x ...any) string { return strings.TrimSpace(fmt.Sprintln(x...)) }

// shown is entries as text: index and term, and the data of commands.
func shown(l []api.Entry) string {
	var b []byte
	for i, e := range l {
		if i > 0 {
			b = append(b, ' ')
		}
		b = append(strconv.AppendInt(b, int64(e.Index), 10), '/')
		b = strconv.AppendInt(b, int64(e.Term), 10)
		if e.Kind != api.EEmpty || len(e.Data) > 0 {
			b = append(append(b, '='), e.Data[:min(9, len(e.Data))]...)
		}
		if e.Kind != api.EEmpty && e.Kind != api.ECommand {
			b = strconv.AppendInt(append(b, " kind "...), int64(e.Kind), 10)
		}
	}
	return string(b)
}

// same tells whether two entries are one.
func same(a, b api.Entry) bool {
	return a.Term == b.Term && a.Index == b.Index && a.Kind == b.Kind && bytes.Equal(a.Data, b.Data)
}

// whole is all that a log tells, as text: its base; its entries; its marks.
func whole(t *testing.T, l *raftlog.Log) string {
	t.Helper()
	base, term := l.Base()
	entries, e := l.Entries(base+1, math.MaxInt)
	if e != api.OK {
		t.Fatalf("Entries from %d on: %d", base+1, e)
	}
	last, lastTerm := base, term
	if n := len(entries); n > 0 {
		last, lastTerm = entries[n-1].Index, entries[n-1].Term
	}
	if i, u := l.Last(); i != last || u != lastTerm || l.Len() != len(entries) || last != base+len(entries) {
		t.Fatalf("the last is %d, %d of %d; the entries are %s", i, u, l.Len(), shown(entries))
	}
	m := l.Marks()
	return say(base, term, ";", shown(entries), ";", m.Handed, m.Stable, m.Committed, m.Applying, m.Applied)
}

// look holds all that a log tells against a text.
func look(t *testing.T, l *raftlog.Log, want string) {
	t.Helper()
	if s := whole(t, l); s != want {
		t.Errorf("the log is %q; not %q", s, want)
	}
}

// is holds an answer against the one that is asked for.
func is[T comparable](t *testing.T, have, want T) {
	t.Helper()
	if have != want {
		t.Errorf("%v; not %v", have, want)
	}
}

// made is a log of entries.
func made(t *testing.T, index, term, commit int, entries ...api.Entry) *raftlog.Log {
	t.Helper()
	l, e := raftlog.New(index, term, commit, entries)
	if l == nil || e != api.OK {
		t.Fatalf("New(%d, %d, %d, %s): %d", index, term, commit, shown(entries), e)
	}
	return l
}

// begun is the chapter's log.
func begun(t *testing.T) *raftlog.Log {
	t.Helper()
	return made(t, 2, 1, 3, command(1, 3, "a"), command(2, 4, "b"), command(2, 5, "c"))
}

const begunWhole = "2 1 ; 3/1=a 4/2=b 5/2=c ; 5 5 3 2 2"

// refused holds that New answers this error, and nothing beside it.
func refused(t *testing.T, index, term int, entries []api.Entry, want api.Errno) {
	t.Helper()
	for _, commit := range []int{0, index, math.MinInt, math.MaxInt} {
		if l, e := raftlog.New(index, term, commit, entries); l != nil || e != want {
			t.Errorf("New(%d, %d, %d, %.60s): %v, %d; not %d", index, term, commit, shown(entries), l != nil, e, want)
		}
	}
}

func TestP8_1_Example(t *testing.T) {
	look(t, begun(t), begunWhole)
}

func TestP8_1_Bases(t *testing.T) {
	for _, n := range []int{1, 2, 1000, top - 1, top} {
		for _, term := range []int{1, 2, top - 1, top} {
			look(t, made(t, n, term, 0), say(n, term, ";  ;", n, n, n, n, n))
			refused(t, n, 0, nil, api.ErrRange)
			refused(t, 0, term, nil, api.ErrRange)
		}
		for _, wrong := range far() {
			refused(t, n, wrong, nil, api.ErrRange)
			refused(t, wrong, n, nil, api.ErrRange)
		}
	}
	for _, wrong := range far() {
		refused(t, 0, wrong, nil, api.ErrRange)
		refused(t, wrong, 0, nil, api.ErrRange)
		refused(t, wrong, wrong, nil, api.ErrRange)
	}
	look(t, made(t, 0, 0, 0), "0 0 ;  ; 0 0 0 0 0")
	l, e := raftlog.New(0, 0, 0, []api.Entry{})
	is(t, e, api.OK)
	look(t, l, "0 0 ;  ; 0 0 0 0 0")
}

// wrongOnes are entries that codec refuses, wherever they stand, and its errors.
func wrongOnes(term, index int) map[api.Errno][]api.Entry {
	data := make([]byte, api.MaxData+1)
	return map[api.Errno][]api.Entry{
		api.ErrRange: {empty(0, index), empty(-1, index), empty(top+1, index), empty(term, 0), empty(term, -1), empty(term, top+1), {}},
		api.ErrKind:  {{Term: term, Index: index, Kind: 2}, {Term: term, Index: index, Kind: -1}, {Term: term, Index: index, Kind: 2, Data: data}},
		api.ErrLong:  {{Term: term, Index: index, Kind: api.ECommand, Data: data}, {Term: term, Index: index, Data: data}},
		api.ErrForm:  {{Term: term, Index: index, Data: data[:1]}, {Term: term, Index: index, Data: data[1:]}},
	}
}

func TestP8_1_WrongEntries(t *testing.T) {
	for want, l := range wrongOnes(2, 4) {
		for _, x := range l {
			refused(t, 3, 1, []api.Entry{x}, want)
			refused(t, 3, 1, []api.Entry{x, empty(2, 5)}, want)
			// Ahead of it, or behind it, stands one that leaves a gap, or whose term falls: codec's error goes first.
			refused(t, 3, 1, []api.Entry{empty(2, 9), x}, want)
			refused(t, 3, 9, []api.Entry{empty(2, 4), x}, want)
			refused(t, 3, 1, []api.Entry{x, empty(1, 9)}, want)
			// Of more than MaxLog too.
			refused(t, 3, 1, append(many(api.MaxLog, 1, 4), x), want)
			// The base's error goes ahead of it.
			refused(t, 3, 0, []api.Entry{x}, api.ErrRange)
			refused(t, -1, 3, []api.Entry{x}, api.ErrRange)
		}
	}
	// Of several the first one's.
	kind := api.Entry{Term: 1, Index: 1, Kind: 3}
	long := api.Entry{Term: 1, Index: 1, Kind: 1, Data: make([]byte, api.MaxData+1)}
	refused(t, 0, 0, []api.Entry{kind, long}, api.ErrKind)
	refused(t, 0, 0, []api.Entry{long, kind}, api.ErrLong)
	refused(t, 0, 0, []api.Entry{empty(1, 1), long, kind}, api.ErrLong)
	look(t, made(t, 0, 0, 0, api.Entry{Term: 1, Index: 1, Kind: 1, Data: make([]byte, api.MaxData)[:0]}), "0 0 ; 1/1= ; 1 1 0 0 0")
	whole := made(t, 0, 0, 0, api.Entry{Term: 1, Index: 1, Kind: 1, Data: make([]byte, api.MaxData)})
	is(t, whole.Len(), 1)
}

func TestP8_1_Order(t *testing.T) {
	for _, x := range []struct {
		index, term int
		l           []api.Entry
		e           api.Errno
	}{
		{0, 0, of(1, 1), api.OK},
		{0, 0, of(1, top), api.OK},
		{0, 0, of(2, 1), api.ErrForm},
		{5, 2, of(6, 2), api.OK},
		{5, 2, of(6, 3), api.OK},
		{5, 2, of(6, 1), api.ErrForm},
		{5, 2, of(5, 2), api.ErrForm},
		{5, 2, of(7, 2), api.ErrForm},
		{5, 2, of(1, 2), api.ErrForm},
		{5, 2, of(6, 2, 2, 3, 3, 9), api.OK},
		{5, 2, of(6, 2, 3, 2), api.ErrForm},
		{5, 2, of(6, 9, 8), api.ErrForm},
		{5, 2, of(6, 9, 1), api.ErrForm},
		{5, 2, append(of(6, 2), of(8, 2)...), api.ErrForm},
		{5, 2, append(of(6, 2), of(6, 2)...), api.ErrForm},
		{5, 2, append(of(6, 2, 2), of(6, 2)...), api.ErrForm},
		{5, 2, append(of(7, 2), of(6, 2)...), api.ErrForm},
		{5, 2, of(top, 2), api.ErrForm},
		{top - 1, 2, of(top, 2), api.OK},
		{top - 1, 2, of(top, 2, 2), api.ErrRange},
		{top, 2, of(top+1, 2), api.ErrRange},
		{top, 2, of(top, 2), api.ErrForm},
		{top, 2, of(1, 2), api.ErrForm},
		{top - 2, top, of(top-1, top, top), api.OK},
		{top - 2, top, of(top-1, top-1, top), api.ErrForm},
	} {
		if x.e != api.OK {
			refused(t, x.index, x.term, x.l, x.e)
			continue
		}
		l := made(t, x.index, x.term, 0, x.l...)
		last := x.index + len(x.l)
		look(t, l, say(x.index, x.term, ";", shown(x.l), ";", last, last, x.index, x.index, x.index))
	}
}

func TestP8_1_Full(t *testing.T) {
	for _, base := range []int{0, 1, 77777, top - api.MaxLog - 1} {
		term := min(base, 1)
		l := made(t, base, term, 0, many(api.MaxLog, 1, base+1)...)
		is(t, l.Len(), api.MaxLog)
		refused(t, base, term, many(api.MaxLog+1, 1, base+1), api.ErrFull)
		refused(t, base, term, many(api.MaxLog+1, 1, base+2)[:api.MaxLog], api.ErrForm)
	}
	refused(t, 0, 0, many(2*api.MaxLog, 1, 1), api.ErrFull)
	// What comes ahead of it: an order that is wrong, in the last entry alone too.
	refused(t, 0, 0, append(many(api.MaxLog, 1, 1), empty(1, api.MaxLog+2)), api.ErrForm)
	refused(t, 0, 0, append(many(api.MaxLog, 2, 1), empty(1, api.MaxLog+1)), api.ErrForm)
	refused(t, 1, 2, many(api.MaxLog+1, 1, 2), api.ErrForm)
	refused(t, top-api.MaxLog, 1, many(api.MaxLog+1, 1, top-api.MaxLog+1), api.ErrRange)
	refused(t, 1, 0, many(api.MaxLog+1, 1, 2), api.ErrRange)
}

func TestP8_1_Commit(t *testing.T) {
	for _, x := range []struct{ commit, want int }{
		{math.MinInt, 5}, {-1, 5}, {0, 5}, {4, 5}, {5, 5}, {6, 6}, {7, 7}, {8, 8}, {9, 8}, {top, 8}, {top + 1, 8}, {math.MaxInt, 8},
	} {
		look(t, made(t, 5, 2, x.commit, of(6, 2, 2, 3)...), say("5 2 ; 6/2=2.6 7/2=2.7 8/3=3.8 ; 8 8", x.want, "5 5"))
		look(t, made(t, 5, 2, x.commit), "5 2 ;  ; 5 5 5 5 5")
		look(t, made(t, 0, 0, x.commit), "0 0 ;  ; 0 0 0 0 0")
	}
	look(t, made(t, top, 2, 0), say(top, "2 ;  ;", top, top, top, top, top))
}

// The examples of the chapter, row by row, on one log.
func TestP8_1_Examples(t *testing.T) {
	l := begun(t)
	is(t, say(l.Base()), "2 1")
	is(t, say(l.Last()), "5 2")
	is(t, l.Marks(), raftlog.Marks{Handed: 5, Stable: 5, Committed: 3, Applying: 2, Applied: 2})
	is(t, say(l.Newer(5, 2), l.Newer(9, 1), l.Newer(1, 3), l.Hint(5, 1), l.Hint(9, 2), l.Hint(1, 9)), "true false true 3 5 2")
	is(t, shown(l.Next(9)), "3/1=a")
	is(t, say(l.Applied(4), l.Applied(3), l.Compact(4), l.Compact(3)), say(false, true, api.ErrRange, api.OK))
	is(t, say(l.Base()), "3 1")
	is(t, say(l.Try(4, 1, 9, nil)), "0 false")
	is(t, say(l.Try(4, 2, 9, []api.Entry{command(3, 5, "d")})), "5 true")
	look(t, l, "3 1 ; 4/2=b 5/3=d ; 4 4 5 3 3")
	is(t, shown(l.Hand()), "5/3=d")
	is(t, say(l.Stable(5, 2), l.Stable(5, 3)), "false true")
	is(t, shown(l.Next(9)), "4/2=b 5/3=d")
	is(t, say(l.Try(3, 1, 0, []api.Entry{command(9, 4, "e")})), "0 false")
	is(t, say(l.Append(2, api.ECommand, nil)), say(0, api.ErrRange))
	is(t, say(l.Restore(5, 3), l.Restore(9, 4)), say(api.ErrRange, api.OK))
	look(t, l, "9 4 ;  ; 9 9 9 9 9")
}
