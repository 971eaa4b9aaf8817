package raftlog_test

import (
	"math"
	"testing"

	"synod/api"
	"synod/raftlog"
)

// bases are logs of many kinds: empty, full, compacted, restored, at the last index that there is.
func bases(t *testing.T) []*raftlog.Log {
	t.Helper()
	full := made(t, 3, 1, 9, many(api.MaxLog, 1, 4)...)
	compacted := made(t, 0, 0, 9, of(1, 1, 1, 2, 2, 3)...)
	compacted.Next(4)
	compacted.Applied(3)
	compacted.Compact(2)
	restored := made(t, 0, 0, 9, of(1, 1, 1, 2)...)
	restored.Restore(7, 4)
	restored.Append(4, api.EEmpty, nil)
	return []*raftlog.Log{
		begun(t), full, compacted, restored,
		made(t, 0, 0, 0), made(t, 0, 0, 0, of(1, 5)...), made(t, 9, 4, 0), made(t, 9, 4, 9, of(10, 4, 4, 6, 8)...),
		made(t, top, 5, 0), made(t, top-2, 5, 0, of(top-1, 5, top)...),
	}
}

// around are indices around a log's ends, within it and far away.
func around(l *raftlog.Log) []int {
	base, _ := l.Base()
	last, _ := l.Last()
	list := append(far(), 0, 1)
	for d := -2; d <= 3; d++ {
		list = append(list, base+d, last+d)
	}
	return list
}

func TestP8_2_TermAndHas(t *testing.T) {
	for i, l := range bases(t) {
		before := whole(t, l)
		base, baseTerm := l.Base()
		last, _ := l.Last()
		entries, _ := l.Entries(base+1, math.MaxInt)
		for _, index := range around(l) {
			want, e := 0, api.OK
			switch {
			case index < base:
				e = api.ErrGone
			case index > last:
				e = api.ErrNone
			case index == base:
				want = baseTerm
			default:
				want = entries[index-base-1].Term
			}
			if term, err := l.Term(index); term != want || err != e {
				t.Errorf("log %d: Term(%d): %d, %d; not %d, %d", i, index, term, err, want, e)
			}
			for _, term := range append(far(), 0, 1, want-1, want, want+1) {
				if has := l.Has(index, term); has != (e == api.OK && term == want) {
					t.Errorf("log %d: Has(%d, %d): %t", i, index, term, has)
				}
			}
		}
		look(t, l, before)
	}
}

func TestP8_2_Terms(t *testing.T) {
	l := begun(t)
	is(t, say(l.Term(2)), say(1, api.OK))
	is(t, say(l.Term(3)), say(1, api.OK))
	is(t, say(l.Term(4)), say(2, api.OK))
	is(t, say(l.Term(5)), say(2, api.OK))
	is(t, say(l.Term(1)), say(0, api.ErrGone))
	is(t, say(l.Term(-1)), say(0, api.ErrGone))
	is(t, say(l.Term(6)), say(0, api.ErrNone))
	is(t, say(made(t, 0, 0, 0).Term(0)), say(0, api.OK))
	is(t, say(made(t, 0, 0, 0).Term(1)), say(0, api.ErrNone))
	is(t, made(t, 0, 0, 0).Has(0, 0), true)
	// An error's 0 is no term.
	is(t, say(l.Has(1, 0), l.Has(6, 0), l.Has(-1, 0)), "false false false")
}

func TestP8_2_Entries(t *testing.T) {
	l := begun(t)
	for _, x := range []struct {
		from, most int
		want       string
		e          api.Errno
	}{
		{math.MinInt, 9, "", api.ErrGone}, {-1, 9, "", api.ErrGone}, {0, 9, "", api.ErrGone}, {1, 9, "", api.ErrGone}, {2, 9, "", api.ErrGone},
		{2, 0, "", api.ErrGone}, {2, -1, "", api.ErrGone},
		{3, math.MinInt, "", api.OK}, {3, -1, "", api.OK}, {3, 0, "", api.OK}, {3, 1, "3/1=a", api.OK}, {3, 2, "3/1=a 4/2=b", api.OK},
		{3, 3, "3/1=a 4/2=b 5/2=c", api.OK}, {3, 4, "3/1=a 4/2=b 5/2=c", api.OK}, {3, math.MaxInt, "3/1=a 4/2=b 5/2=c", api.OK},
		{4, 1, "4/2=b", api.OK}, {4, 9, "4/2=b 5/2=c", api.OK}, {5, 0, "", api.OK}, {5, 1, "5/2=c", api.OK}, {5, 9, "5/2=c", api.OK},
		{6, math.MinInt, "", api.OK}, {6, 0, "", api.OK}, {6, 9, "", api.OK},
		{7, 0, "", api.ErrNone}, {7, -1, "", api.ErrNone}, {7, 9, "", api.ErrNone}, {top, 9, "", api.ErrNone}, {math.MaxInt, 9, "", api.ErrNone},
	} {
		m, e := l.Entries(x.from, x.most)
		if shown(m) != x.want || e != x.e {
			t.Errorf("Entries(%d, %d): %s, %d; not %s, %d", x.from, x.most, shown(m), e, x.want, x.e)
		}
	}
	look(t, l, begunWhole)
}

// Each cut of each log is the piece of all its entries.
func TestP8_2_EntriesAround(t *testing.T) {
	for i, l := range bases(t) {
		base, _ := l.Base()
		last, _ := l.Last()
		all, e := l.Entries(base+1, math.MaxInt)
		is(t, e, api.OK)
		is(t, len(all), l.Len())
		for _, from := range around(l) {
			for _, most := range []int{math.MinInt, -1, 0, 1, 2, 5, api.MaxLog, math.MaxInt} {
				var want []api.Entry
				e := api.OK
				switch {
				case from <= base:
					e = api.ErrGone
				case from-1 > last:
					e = api.ErrNone
				default:
					want = all[from-base-1:]
					want = want[:max(0, min(most, len(want)))]
				}
				if m, err := l.Entries(from, most); shown(m) != shown(want) || err != e {
					t.Errorf("log %d: Entries(%d, %d): %.90s, %d; not %.90s, %d", i, from, most, shown(m), err, shown(want), e)
				}
			}
		}
	}
}

func TestP8_2_Newer(t *testing.T) {
	for i, l := range bases(t) {
		last, lastTerm := l.Last()
		for _, index := range around(l) {
			for _, term := range append(far(), 0, 1, lastTerm-1, lastTerm, lastTerm+1) {
				want := term > lastTerm
				if term == lastTerm {
					want = index >= last
				}
				if have := l.Newer(index, term); have != want {
					t.Errorf("log %d: Newer(%d, %d): %t", i, index, term, have)
				}
			}
		}
	}
	l := begun(t)
	is(t, say(l.Newer(5, 2), l.Newer(4, 2), l.Newer(6, 2), l.Newer(9, 1), l.Newer(1, 3)), "true false true false true")
	is(t, say(made(t, 0, 0, 0).Newer(0, 0), made(t, 0, 0, 0).Newer(-1, 0), made(t, 0, 0, 0).Newer(0, 1)), "true false true")
}

func TestP8_2_BaseLastLenMarks(t *testing.T) {
	l := made(t, 0, 0, 0)
	state := func() string {
		base, baseTerm := l.Base()
		last, lastTerm := l.Last()
		return say(base, baseTerm, last, lastTerm, l.Len(), l.Marks())
	}
	is(t, state(), "0 0 0 0 0 {0 0 0 0 0}")
	l.Append(3, api.EEmpty, nil)
	is(t, state(), "0 0 1 3 1 {0 0 0 0 0}")
	l.Append(4, api.EEmpty, nil)
	is(t, state(), "0 0 2 4 2 {0 0 0 0 0}")
	l.Hand()
	is(t, state(), "0 0 2 4 2 {2 0 0 0 0}")
	l.Commit(2)
	is(t, state(), "0 0 2 4 2 {2 0 2 0 0}")
	l.Stable(1, 3)
	is(t, state(), "0 0 2 4 2 {2 1 2 0 0}")
	l.Next(9)
	is(t, state(), "0 0 2 4 2 {2 1 2 1 0}")
	l.Applied(1)
	is(t, state(), "0 0 2 4 2 {2 1 2 1 1}")
	l.Compact(1)
	is(t, state(), "1 3 2 4 1 {2 1 2 1 1}")
	l.Stable(2, 4)
	l.Next(9)
	l.Applied(2)
	l.Compact(2)
	is(t, state(), "2 4 2 4 0 {2 2 2 2 2}")
	l.Restore(9, 6)
	is(t, state(), "9 6 9 6 0 {9 9 9 9 9}")
	// What is answered is a copy.
	m := l.Marks()
	m.Applied = 77
	is(t, state(), "9 6 9 6 0 {9 9 9 9 9}")
}
