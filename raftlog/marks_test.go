package raftlog_test

import (
	"math"
	"testing"

	"synod/api"
)

func TestP8_6_Hand(t *testing.T) {
	l := ready(t)
	is(t, shown(l.Hand()), "9/5=5.9")
	look(t, l, say("3 1 ;", readyEntries, "; 9 7 5 4 3"))
	is(t, len(l.Hand()), 0)
	look(t, l, say("3 1 ;", readyEntries, "; 9 7 5 4 3"))
	l.Append(6, api.EEmpty, nil)
	l.Append(6, api.ECommand, []byte("x"))
	is(t, shown(l.Hand()), "10/6 11/6=x")
	is(t, l.Marks().Handed, 11)
	// What Try has put in the place of handed ones is handed again.
	l.Try(6, 3, 0, of(7, 7, 7))
	is(t, l.Marks().Handed, 6)
	is(t, shown(l.Hand()), "7/7=7.7 8/7=7.8")
	is(t, len(l.Hand()), 0)
	l.Restore(20, 8)
	is(t, len(l.Hand()), 0)
	l.Append(8, api.EEmpty, nil)
	is(t, shown(l.Hand()), "21/8")
	is(t, say(len(made(t, 0, 0, 0).Hand()), len(begun(t).Hand()), len(made(t, top, 1, 0).Hand())), "0 0 0")
	// All at once, however many there are.
	l = made(t, 0, 0, 0)
	for i := range api.MaxLog {
		appended(t, l, 1, api.EEmpty, "", i+1)
	}
	is(t, len(l.Hand()), api.MaxLog)
}

func TestP8_6_Stable(t *testing.T) {
	for _, x := range []struct {
		index, term int
		ok          bool
	}{
		{8, 5, true}, {8, 4, false}, {8, 6, false}, {8, 0, false}, {8, math.MaxInt, false}, {7, 3, false}, {6, 3, false}, {3, 1, false}, {0, 0, false}, {-1, 0, false},
		{9, 5, false}, {10, 5, false}, {10, 0, false}, {math.MinInt, 0, false}, {math.MaxInt, 0, false}, {math.MaxInt, 5, false},
	} {
		l := ready(t)
		is(t, l.Stable(x.index, x.term), x.ok)
		want := 7
		if x.ok {
			want = x.index
		}
		look(t, l, say("3 1 ;", readyEntries, "; 8", want, "5 4 3"))
	}
	l := ready(t)
	l.Hand()
	is(t, say(l.Stable(8, 5), l.Stable(8, 5), l.Stable(7, 3), l.Stable(9, 5), l.Stable(9, 5), l.Stable(8, 5)), "true false false true false false")
	// More than one at once.
	l = ready(t)
	l.Hand()
	is(t, say(l.Stable(9, 5), l.Stable(8, 5)), "true false")
	// What was handed is gone, and another one stands there.
	l = ready(t)
	l.Hand()
	l.Try(7, 3, 0, of(8, 6, 6))
	is(t, say(l.Stable(9, 5), l.Stable(8, 5), l.Stable(8, 6), l.Stable(9, 6)), "false false false false")
	l.Hand()
	is(t, say(l.Stable(9, 5), l.Stable(8, 5), l.Stable(8, 6), l.Stable(9, 5), l.Stable(9, 6)), "false false true false true")
	// It has nothing to do with what is committed.
	l = made(t, 0, 0, 0)
	l.Append(2, api.EEmpty, nil)
	is(t, l.Stable(1, 2), false)
	l.Hand()
	is(t, l.Stable(1, 2), true)
	look(t, l, "0 0 ; 1/2 ; 1 1 0 0 0")
	is(t, say(made(t, 0, 0, 0).Stable(0, 0), made(t, 5, 1, 0).Stable(5, 1)), "false false")
}

func TestP8_6_Next(t *testing.T) {
	l := ready(t)
	is(t, say(len(l.Next(0)), len(l.Next(-1)), len(l.Next(math.MinInt))), "0 0 0")
	look(t, l, readyWhole)
	is(t, shown(l.Next(9)), "5/2=2.5")
	look(t, l, say("3 1 ;", readyEntries, "; 8 7 5 5 3"))
	is(t, len(l.Next(9)), 0)
	// As far as they are stable, then as far as they are committed.
	l.Commit(9)
	is(t, shown(l.Next(1)), "6/3=3.6")
	is(t, shown(l.Next(math.MaxInt)), "7/3=3.7")
	is(t, len(l.Next(math.MaxInt)), 0)
	look(t, l, say("3 1 ;", readyEntries, "; 8 7 9 7 3"))
	l.Hand()
	l.Stable(9, 5)
	is(t, shown(l.Next(1)), "8/5=5.8")
	is(t, shown(l.Next(1)), "9/5=5.9")
	is(t, shown(l.Next(1)), "")
	l = ready(t)
	l.Hand()
	l.Stable(9, 5)
	is(t, shown(l.Next(9)), "5/2=2.5")
	l.Commit(8)
	is(t, shown(l.Next(9)), "6/3=3.6 7/3=3.7 8/5=5.8")
	look(t, l, say("3 1 ;", readyEntries, "; 9 9 8 8 3"))
	is(t, say(len(made(t, 0, 0, 0).Next(9)), len(made(t, top, 1, top).Next(9))), "0 0")
	l = made(t, top-2, 1, top, of(top-1, 1, 1)...)
	is(t, say(len(l.Next(1)), len(l.Next(math.MaxInt)), l.Marks().Applying), say(1, 1, top))
	// All at once, behind what was compacted too.
	l = made(t, 0, 0, api.MaxLog, many(api.MaxLog, 1, 1)...)
	is(t, len(l.Next(5)), 5)
	l.Applied(5)
	l.Compact(5)
	is(t, len(l.Next(math.MaxInt)), api.MaxLog-5)
}

func TestP8_6_Applied(t *testing.T) {
	l := ready(t)
	l.Commit(7)
	l.Next(2)
	look(t, l, say("3 1 ;", readyEntries, "; 8 7 7 6 3"))
	for _, index := range []int{math.MinInt, -1, 0, 2, 3, 7, 8, 9, 10, top, math.MaxInt} {
		is(t, l.Applied(index), false)
	}
	look(t, l, say("3 1 ;", readyEntries, "; 8 7 7 6 3"))
	is(t, l.Applied(4), true)
	look(t, l, say("3 1 ;", readyEntries, "; 8 7 7 6 4"))
	is(t, say(l.Applied(4), l.Applied(3), l.Applied(7)), "false false false")
	is(t, l.Applied(6), true)
	look(t, l, say("3 1 ;", readyEntries, "; 8 7 7 6 6"))
	is(t, say(l.Applied(5), l.Applied(6), l.Applied(7)), "false false false")
	l.Next(1)
	is(t, say(l.Applied(7), l.Applied(7)), "true false")
	is(t, say(made(t, 0, 0, 0).Applied(0), made(t, 0, 0, 0).Applied(1), begun(t).Applied(3)), "false false false")
}

func TestP8_7_Compact(t *testing.T) {
	applied := func() string {
		l := ready(t)
		l.Commit(7)
		l.Next(3)
		l.Applied(6)
		return whole(t, l)
	}()
	is(t, applied, say("3 1 ;", readyEntries, "; 8 7 7 7 6"))
	for _, x := range []struct {
		index int
		e     api.Errno
		want  string
	}{
		{math.MinInt, api.ErrGone, applied}, {-1, api.ErrGone, applied}, {0, api.ErrGone, applied}, {2, api.ErrGone, applied},
		{3, api.OK, applied},
		{4, api.OK, "4 2 ; 5/2=2.5 6/3=3.6 7/3=3.7 8/5=5.8 9/5=5.9 ; 8 7 7 7 6"},
		{5, api.OK, "5 2 ; 6/3=3.6 7/3=3.7 8/5=5.8 9/5=5.9 ; 8 7 7 7 6"},
		{6, api.OK, "6 3 ; 7/3=3.7 8/5=5.8 9/5=5.9 ; 8 7 7 7 6"},
		{7, api.ErrRange, applied}, {8, api.ErrRange, applied}, {9, api.ErrRange, applied}, {10, api.ErrRange, applied},
		{top, api.ErrRange, applied}, {top + 1, api.ErrRange, applied}, {math.MaxInt, api.ErrRange, applied},
	} {
		l := ready(t)
		l.Commit(7)
		l.Next(3)
		l.Applied(6)
		is(t, l.Compact(x.index), x.e)
		look(t, l, x.want)
	}
	is(t, say(made(t, 0, 0, 0).Compact(0), made(t, 0, 0, 0).Compact(-1), made(t, 0, 0, 0).Compact(1)), say(api.OK, api.ErrGone, api.ErrRange))
}

// Behind a Compact all goes on as ahead of it.
func TestP8_7_CompactedGoesOn(t *testing.T) {
	l := ready(t)
	l.Commit(7)
	l.Next(3)
	l.Applied(6)
	is(t, say(l.Compact(5), l.Compact(4), l.Compact(5), l.Compact(6)), say(api.OK, api.ErrGone, api.OK, api.OK))
	is(t, say(l.Term(6)), say(3, api.OK))
	is(t, say(l.Term(5)), say(0, api.ErrGone))
	is(t, say(l.Term(8)), say(5, api.OK))
	is(t, say(l.Hint(9, 4), l.Hint(9, 1), l.Applied(7), l.Stable(8, 5), shown(l.Hand())), "7 6 true true 9/5=5.9")
	tried(t, l, 8, 5, 9, of(9, 6), "6 3 ; 7/3=3.7 8/5=5.8 9/6=6.9 ; 8 8 9 7 7")
	appended(t, l, 6, api.EEmpty, "", 10)
	is(t, shown(l.Next(9)), "8/5=5.8")
	is(t, say(l.Applied(8), l.Compact(8)), say(true, api.OK))
	look(t, l, "8 5 ; 9/6=6.9 10/6 ; 8 8 9 8 8")
	// All gone: the base is the last one.
	l = made(t, 0, 0, 3, of(1, 1, 2, 3)...)
	l.Next(3)
	l.Applied(3)
	is(t, l.Compact(3), api.OK)
	look(t, l, "3 3 ;  ; 3 3 3 3 3")
	notAppended(t, l, 2, api.EEmpty, nil, api.ErrRange)
	appended(t, l, 3, api.EEmpty, "", 4)
	look(t, l, "3 3 ; 4/3 ; 3 3 3 3 3")
}

func TestP8_7_Restore(t *testing.T) {
	for _, index := range []int{6, 7, 8, 9, 10, 1000, top - 1, top} {
		for _, term := range []int{1, 2, 5, 9, top} {
			l := ready(t)
			is(t, l.Restore(index, term), api.OK)
			look(t, l, say(index, term, ";  ;", index, index, index, index, index))
			is(t, l.Restore(index, term), api.ErrRange)
			is(t, say(len(l.Hand()), len(l.Next(9)), l.Stable(index, term), l.Applied(index), l.Commit(top)), "0 0 false false false")
		}
		for _, term := range append(far(), 0) {
			l := ready(t)
			is(t, l.Restore(index, term), api.ErrRange)
			look(t, l, readyWhole)
		}
	}
	l := ready(t)
	for _, index := range append(far(), 0, 1, 2, 3, 4, 5) {
		for _, term := range []int{0, 1, 2, 9} {
			is(t, l.Restore(index, term), api.ErrRange)
		}
	}
	look(t, l, readyWhole)
	zero := made(t, 0, 0, 0)
	is(t, say(zero.Restore(0, 0), zero.Restore(0, 1), zero.Restore(1, 0), zero.Restore(1, 1)), say(api.ErrRange, api.ErrRange, api.ErrRange, api.OK))
	look(t, zero, "1 1 ;  ; 1 1 1 1 1")
	is(t, made(t, top, 1, 0).Restore(top, 1), api.ErrRange)
}

// Behind a Restore the log goes on from its base.
func TestP8_7_RestoredGoesOn(t *testing.T) {
	l := ready(t)
	is(t, l.Restore(20, 4), api.OK)
	is(t, say(l.Term(9)), say(0, api.ErrGone))
	notAppended(t, l, 3, api.EEmpty, nil, api.ErrRange)
	appended(t, l, 4, api.EEmpty, "", 21)
	notTried(t, l, 9, 5, 0)
	tried(t, l, 20, 4, 21, of(21, 5, 6), "20 4 ; 21/5=5.21 22/6=6.22 ; 20 20 21 20 20")
	is(t, shown(l.Hand()), "21/5=5.21 22/6=6.22")
	is(t, say(l.Stable(22, 6), shown(l.Next(9)), l.Applied(21), l.Compact(21)), say(true, "21/5=5.21", true, api.OK))
	look(t, l, "21 5 ; 22/6=6.22 ; 22 22 21 21 21")
}
