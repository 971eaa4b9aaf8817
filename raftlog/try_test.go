package raftlog_test

import (
	"math"
	"testing"

	"synod/api"
	"synod/raftlog"
)

// notTried holds that Try answers false, nothing beside it, and changes nothing.
func notTried(t *testing.T, l *raftlog.Log, index, term, commit int, entries ...api.Entry) {
	t.Helper()
	before := whole(t, l)
	if n, ok := l.Try(index, term, commit, entries); n != 0 || ok {
		t.Errorf("Try(%d, %d, %d, %.60s): %d, %t", index, term, commit, shown(entries), n, ok)
	}
	look(t, l, before)
}

// tried holds that Try answers that sum, and what the log is then.
func tried(t *testing.T, l *raftlog.Log, index, term, commit int, entries []api.Entry, want string) {
	t.Helper()
	if n, ok := l.Try(index, term, commit, entries); n != index+len(entries) || !ok {
		t.Errorf("Try(%d, %d, %d, %.60s): %d, %t", index, term, commit, shown(entries), n, ok)
	}
	look(t, l, want)
}

// ready is a log of the entries 4 to 9, of the terms 2, 2, 3, 3, 5, 5 behind 3 of term 1: handed are 8, stable 7, committed 5, applying 4.
func ready(t *testing.T) *raftlog.Log {
	t.Helper()
	l := made(t, 3, 1, 5, of(4, 2, 2, 3, 3)...)
	l.Next(1)
	l.Append(5, api.ECommand, []byte("5.8"))
	l.Hand()
	l.Append(5, api.ECommand, []byte("5.9"))
	look(t, l, readyWhole)
	return l
}

const (
	readyEntries = "4/2=2.4 5/2=2.5 6/3=3.6 7/3=3.7 8/5=5.8 9/5=5.9"
	readyWhole   = "3 1 ; " + readyEntries + " ; 8 7 5 4 3"
)

func TestP8_4_NotThere(t *testing.T) {
	l := ready(t)
	for _, x := range []struct{ index, term int }{
		{2, 1}, {0, 0}, {-1, 0}, {-1, 1}, {3, 0}, {3, 2}, {4, 1}, {4, 3}, {5, 3}, {6, 2}, {9, 4}, {9, 6}, {10, 5}, {10, 0}, {11, 5}, {1, 0},
		{math.MinInt, 0}, {math.MaxInt, 5}, {top, 5}, {top + 1, 5}, {9, math.MaxInt}, {9, -1}, {9, math.MinInt},
	} {
		for _, commit := range []int{0, 9, math.MaxInt} {
			notTried(t, l, x.index, x.term, commit)
		}
		if x.index >= 0 && x.index < top && x.term > 0 && x.term <= top {
			notTried(t, l, x.index, x.term, 9, of(x.index+1, max(1, x.term))...)
		}
	}
	// Above the base that is 0 all terms are from 1 on; of it, it is 0.
	zero := made(t, 0, 0, 0)
	notTried(t, zero, 0, 1, 0)
	notTried(t, zero, 1, 1, 0)
	tried(t, zero, 0, 0, 9, nil, "0 0 ;  ; 0 0 0 0 0")
}

func TestP8_4_AllThere(t *testing.T) {
	all := of(4, 2, 2, 3, 3, 5, 5)
	for from := range 7 {
		for to := from; to <= 6; to++ {
			index, term := 3+from, 1
			if from > 0 {
				term = all[from-1].Term
			}
			tried(t, ready(t), index, term, 0, all[from:to], readyWhole)
			tried(t, ready(t), index, term, 5, all[from:to], readyWhole)
			want := max(5, index+to-from)
			for _, commit := range []int{9, 10, top, math.MaxInt} {
				tried(t, ready(t), index, term, commit, all[from:to], say("3 1 ;", readyEntries, "; 8 7", want, "4 3"))
			}
		}
	}
	// None, at the base, at the last one and between.
	tried(t, ready(t), 3, 1, 9, nil, readyWhole)
	tried(t, ready(t), 7, 3, 6, []api.Entry{}, say("3 1 ;", readyEntries, "; 8 7 6 4 3"))
	tried(t, ready(t), 7, 3, 8, []api.Entry{}, say("3 1 ;", readyEntries, "; 8 7 7 4 3"))
	tried(t, ready(t), 9, 5, math.MinInt, nil, readyWhole)
}

// Entries that are there are known by their terms: those of the log stay.
func TestP8_4_KnownByTerm(t *testing.T) {
	tried(t, ready(t), 6, 3, 0, []api.Entry{command(3, 7, "other"), empty(5, 8)}, readyWhole)
	tried(t, ready(t), 6, 3, 0, []api.Entry{command(3, 7, "other"), empty(5, 8), empty(5, 9), empty(6, 10)},
		say("3 1 ;", readyEntries, "10/6 ; 8 7 5 4 3"))
}

func TestP8_4_BehindTheLast(t *testing.T) {
	tried(t, ready(t), 9, 5, 0, of(10, 5, 7), say("3 1 ;", readyEntries, "10/5=5.10 11/7=7.11 ; 8 7 5 4 3"))
	tried(t, ready(t), 8, 5, 10, of(9, 5, 5, 7), say("3 1 ;", readyEntries, "10/5=5.10 11/7=7.11 ; 8 7 10 4 3"))
	tried(t, ready(t), 3, 1, 99, of(4, 2, 2, 3, 3, 5, 5, 8), say("3 1 ;", readyEntries, "10/8=8.10 ; 8 7 10 4 3"))
	tried(t, made(t, 0, 0, 0), 0, 0, 1, of(1, 1, 2), "0 0 ; 1/1=1.1 2/2=2.2 ; 0 0 1 0 0")
	tried(t, made(t, 9, 4, 0), 9, 4, 0, of(10, 4), "9 4 ; 10/4=4.10 ; 9 9 9 9 9")
	tried(t, made(t, top-1, 4, 0), top-1, 4, math.MaxInt, many(1, 7, top),
		say(top-1, "4 ; 4611686018427387904/7 ;", top-1, top-1, top, top-1, top-1))
}

func TestP8_4_OtherTerm(t *testing.T) {
	// At the last one, which is not handed.
	tried(t, ready(t), 8, 5, 0, of(9, 6), "3 1 ; 4/2=2.4 5/2=2.5 6/3=3.6 7/3=3.7 8/5=5.8 9/6=6.9 ; 8 7 5 4 3")
	// At one that is handed.
	tried(t, ready(t), 7, 3, 0, of(8, 6), "3 1 ; 4/2=2.4 5/2=2.5 6/3=3.6 7/3=3.7 8/6=6.8 ; 7 7 5 4 3")
	tried(t, ready(t), 7, 3, 0, of(8, 4, 4, 4), "3 1 ; 4/2=2.4 5/2=2.5 6/3=3.6 7/3=3.7 8/4=4.8 9/4=4.9 10/4=4.10 ; 7 7 5 4 3")
	// At one that is stable.
	tried(t, ready(t), 6, 3, 0, of(7, 4), "3 1 ; 4/2=2.4 5/2=2.5 6/3=3.6 7/4=4.7 ; 6 6 5 4 3")
	// Right behind committed.
	tried(t, ready(t), 5, 2, 0, of(6, 2), "3 1 ; 4/2=2.4 5/2=2.5 6/2=2.6 ; 5 5 5 4 3")
	// Behind some that are there; what is committed then.
	tried(t, ready(t), 3, 1, 6, of(4, 2, 2, 3, 4, 5), "3 1 ; 4/2=2.4 5/2=2.5 6/3=3.6 7/4=4.7 8/5=5.8 ; 6 6 6 4 3")
	tried(t, ready(t), 3, 1, 99, of(4, 2, 2, 3, 4, 5), "3 1 ; 4/2=2.4 5/2=2.5 6/3=3.6 7/4=4.7 8/5=5.8 ; 6 6 8 4 3")
	// The same term again behind it goes with the others.
	tried(t, ready(t), 7, 3, 0, of(8, 4, 5), "3 1 ; 4/2=2.4 5/2=2.5 6/3=3.6 7/3=3.7 8/4=4.8 9/5=5.9 ; 7 7 5 4 3")
}

func TestP8_4_Committed(t *testing.T) {
	l := ready(t)
	for _, commit := range []int{0, 9, 99} {
		notTried(t, l, 3, 1, commit, of(4, 3)...)
		notTried(t, l, 3, 1, commit, of(4, 1)...)
		notTried(t, l, 4, 2, commit, of(5, 3)...)
		notTried(t, l, 3, 1, commit, of(4, 2, 3, 3, 3, 5, 5, 6)...)
	}
	l.Commit(9)
	notTried(t, l, 8, 5, 9, of(9, 6)...)
	tried(t, l, 8, 5, 9, of(9, 5, 6), say("3 1 ;", readyEntries, "10/6=6.10 ; 8 7 9 4 3"))
	// At the base: what stands there isn't asked for but by index and term.
	notTried(t, l, 2, 1, 9, of(3, 1)...)
	notTried(t, l, 2, 1, 9, of(3, 1, 2, 2)...)
}

func TestP8_4_MaxLog(t *testing.T) {
	n := api.MaxLog
	near := func() *raftlog.Log { return made(t, 5, 3, 0, many(n-3, 3, 6)...) }
	last := 5 + n - 3
	l := near()
	notTried(t, l, last, 3, 0, many(4, 3, last+1)...)
	notTried(t, l, last, 3, last, many(64, 3, last+1)...)
	notTried(t, l, last-2, 3, last, many(6, 3, last-1)...)
	is(t, say(l.Try(last-2, 3, 0, many(5, 3, last-1))), say(last+3, true))
	is(t, l.Len(), n)
	notTried(t, l, last+3, 3, 0, many(1, 3, last+4)...)
	// All there: nothing more.
	is(t, say(l.Try(last, 3, 0, many(3, 3, last+1))), say(last+3, true))
	is(t, say(l.Try(last+3, 3, 0, nil)), say(last+3, true))
	// As many in the place of others.
	is(t, say(l.Try(last, 3, 0, many(3, 4, last+1))), say(last+3, true))
	is(t, l.Len(), n)
	notTried(t, l, last, 3, 0, many(4, 5, last+1)...)
	notTried(t, l, last, 3, 0, many(4, 4, last+1)...)
	is(t, say(l.Try(last, 3, 0, many(2, 5, last+1))), say(last+2, true))
	is(t, l.Len(), n-1)
	is(t, say(l.Last()), say(last+2, 5))
	// What was compacted makes room.
	l.Commit(7)
	l.Next(2)
	l.Applied(7)
	l.Compact(7)
	is(t, say(l.Try(last+2, 5, 0, many(3, 5, last+3))), say(last+5, true))
	is(t, l.Len(), n)
}

// Whatever entries it is given, also such as may not stand in a message, the log stays one, and nothing panics.
func TestP8_4_OutOfQuestion(t *testing.T) {
	lists := [][]api.Entry{
		{{}}, {{}, {}}, of(9, 5), of(11, 5), of(1, 1), of(10, 4), of(10, 6, 5), of(math.MaxInt, 5), of(math.MinInt, 5), of(0, 0),
		{empty(5, 10), empty(5, 12)}, {empty(5, 10), empty(5, 10)}, {empty(5, 10), empty(5, 2)}, {empty(5, 10), empty(5, 8)},
		{{Term: 5, Index: 10, Kind: 9}}, {{Term: 5, Index: 10, Data: []byte("x")}}, {{Term: -1, Index: 10}}, {{Term: top + 1, Index: 10}},
		many(api.MaxEntries+1, 5, 10), many(api.MaxLog, 5, 10), many(api.MaxLog, 5, 4), many(api.MaxLog+1, 5, 4),
	}
	for _, entries := range lists {
		for index := 2; index <= 11; index++ {
			for term := range 7 {
				for _, commit := range []int{0, 9, math.MaxInt} {
					l := ready(t)
					l.Try(index, term, commit, entries)
					sound(t, l)
				}
			}
		}
	}
}

func TestP8_5_Hint(t *testing.T) {
	for i, l := range bases(t) {
		base, _ := l.Base()
		last, lastTerm := l.Last()
		before := whole(t, l)
		for _, index := range around(l) {
			for _, term := range append(far(), 0, 1, 2, 3, 4, 5, lastTerm-1, lastTerm, lastTerm+1) {
				want := base
				for at := base; at <= min(index, last); at++ {
					if u, e := l.Term(at); e == api.OK && u <= term {
						want = at
					}
				}
				if have := l.Hint(index, term); have != want {
					t.Errorf("log %d: Hint(%d, %d): %d; not %d", i, index, term, have, want)
				}
			}
		}
		look(t, l, before)
	}
	l := ready(t)
	for _, x := range []struct{ index, term, want int }{
		{9, 5, 9}, {99, 9, 9}, {math.MaxInt, math.MaxInt, 9}, {9, 4, 7}, {8, 5, 8}, {8, 4, 7}, {9, 3, 7}, {6, 3, 6}, {9, 2, 5}, {6, 2, 5}, {9, 1, 3},
		{9, 0, 3}, {9, -1, 3}, {9, math.MinInt, 3}, {4, 1, 3}, {4, 2, 4}, {3, 9, 3}, {3, 1, 3}, {3, 0, 3}, {2, 9, 3}, {0, 9, 3}, {math.MinInt, 9, 3},
	} {
		if have := l.Hint(x.index, x.term); have != x.want {
			t.Errorf("Hint(%d, %d): %d; not %d", x.index, x.term, have, x.want)
		}
	}
	// A greater index of a term that isn't there is passed over; the base answers where all terms are above.
	is(t, say(made(t, 0, 0, 0, of(1, 5)...).Hint(1, 4), made(t, 0, 0, 0).Hint(0, 0), made(t, 9, 4, 0).Hint(9, 3)), "0 0 9")
}

func TestP8_5_Commit(t *testing.T) {
	for _, x := range []struct {
		index, want int
		grown       bool
	}{
		{math.MinInt, 5, false}, {-1, 5, false}, {0, 5, false}, {3, 5, false}, {4, 5, false}, {5, 5, false},
		{6, 6, true}, {8, 8, true}, {9, 9, true}, {10, 9, true}, {top, 9, true}, {top + 1, 9, true}, {math.MaxInt, 9, true},
	} {
		l := ready(t)
		is(t, l.Commit(x.index), x.grown)
		look(t, l, say("3 1 ;", readyEntries, "; 8 7", x.want, "4 3"))
		is(t, l.Commit(x.index), false)
		is(t, l.Commit(5), false)
		look(t, l, say("3 1 ;", readyEntries, "; 8 7", x.want, "4 3"))
	}
	l := ready(t)
	is(t, say(l.Commit(7), l.Commit(6), l.Commit(7), l.Commit(8), l.Commit(99), l.Commit(99)), "true false false true true false")
	l.Append(5, api.EEmpty, nil)
	is(t, say(l.Commit(9), l.Commit(99), l.Marks().Committed), "false true 10")
	is(t, say(made(t, 0, 0, 0).Commit(1), made(t, 7, 1, 0).Commit(8), made(t, 7, 1, 0).Commit(7)), "false false false")
	l = made(t, top-1, 4, 0, of(top, 4)...)
	is(t, say(l.Commit(math.MaxInt), l.Marks().Committed), say(true, top))
}
