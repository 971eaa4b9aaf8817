package lin_test

import (
	"fmt"
	"math"
	"slices"
	"testing"

	"synod/api"
	"synod/lin"
)

// What a key without operations that count was told is explained by no operation at all.
func TestP16_4_Nothing(t *testing.T) {
	judged(t, nil, "")
	judged(t, list(), "")
	judged(t, list(opened(get(1, 0, reply(0))), put("x", 1, 2, reply(api.RLead)), get(1, 2, reply(api.RBusy, "q"))), "")
	for _, key := range []string{"", "b", "aa", "A", "a\x00"} {
		order, ok, e := lin.Explain(list(put("x", 1, 2, reply(api.RDone)), get(3, 4, reply(api.RNone))), key)
		is(t, say(order, ok, e), say([]int{}, true, api.OK))
	}
}

// One operation alone meets a key that isn't there.
func TestP16_4_Alone(t *testing.T) {
	for code := api.RDone; code <= api.ROther; code++ {
		for _, value := range []string{"", "x"} {
			r := reply(code, value)
			for _, c := range []struct {
				x  api.Op
				ok bool
			}{
				{get(1, 2, r), r == reply(api.RNone)},
				{put("x", 1, 2, r), r == reply(api.RDone)},
				{remove(1, 2, r), r == reply(api.RNone)},
				{swap("x", "", 1, 2, r), r == reply(api.RNone)},
			} {
				judged(t, list(c.x), map[bool]string{false: "none", true: "0"}[c.ok])
			}
		}
	}
}

// A reply is a code and a value: both have to be what Step tells.
func TestP16_4_WholeReply(t *testing.T) {
	done := reply(api.RDone)
	x := put("x", 1, 2, done)
	judged(t, list(x, get(3, 4, reply(api.RDone, "x"))), "0 1")
	judged(t, list(x, get(3, 4, reply(api.RDone, ""))), "none")
	judged(t, list(x, get(3, 4, reply(api.RDone, "X"))), "none")
	judged(t, list(x, get(3, 4, reply(api.RNone, "x"))), "none")
	judged(t, list(x, get(3, 4, reply(api.ROther, "x"))), "none")
	judged(t, list(put("x", 1, 2, reply(api.RDone, "x"))), "none")
	judged(t, list(x, remove(3, 4, reply(api.RDone, "x"))), "none")
	judged(t, list(x, swap("y", "x", 3, 4, reply(api.RDone, "x"))), "none")
	judged(t, list(x, swap("y", "z", 3, 4, reply(api.ROther, "x"))), "0 1")
	judged(t, list(x, swap("y", "z", 3, 4, reply(api.ROther, ""))), "none")
	judged(t, list(x, swap("y", "z", 3, 4, reply(api.ROther, "z"))), "none")
	judged(t, list(put("", 1, 2, done), get(3, 4, done)), "0 1")
	judged(t, list(put("", 1, 2, done), get(3, 4, reply(api.RNone))), "none")
	judged(t, list(put("", 1, 2, done), swap("y", "", 3, 4, done), swap("z", "", 5, 6, reply(api.ROther, "y"))), "0 1 2")
}

// Only what was answered ahead of a call stands ahead of it; at the same time it need not.
func TestP16_4_Times(t *testing.T) {
	none, x := reply(api.RNone), reply(api.RDone, "x")
	for call := 1; call < 8; call++ {
		for back := call; back < 8; back++ {
			for from := 1; from < 8; from++ {
				for to := from; to < 8; to++ {
					want := "1 0"
					if back < from {
						want = "none"
					}
					judged(t, list(put("x", call, back, reply(api.RDone)), get(from, to, none)), want)
					want = "0 1"
					if to < call {
						want = "none"
					}
					judged(t, list(put("x", call, back, reply(api.RDone)), get(from, to, x)), want)
				}
			}
		}
	}
	top := math.MaxInt
	judged(t, list(put("x", 1, top, reply(api.RDone)), get(top, top, none)), "1 0")
	judged(t, list(put("x", 1, top-1, reply(api.RDone)), get(top, top, none)), "none")
}

// An open write may have had effect at any time behind its call, or never.
func TestP16_4_Open(t *testing.T) {
	none, x, y := reply(api.RNone), reply(api.RDone, "x"), reply(api.RDone, "y")
	late := opened(put("x", 3, 0, reply(0)))
	judged(t, list(late), "")
	judged(t, list(late, get(1, 2, none)), "1")
	judged(t, list(late, get(1, 2, x)), "none") // it wasn't called yet
	judged(t, list(late, get(1, 3, x)), "0 1")
	judged(t, list(late, get(100, 101, x)), "0 1")
	judged(t, list(late, get(100, 101, none)), "1")
	judged(t, list(get(4, 5, none), late, get(6, 7, x)), "0 1 2")
	judged(t, list(get(4, 5, x), late, get(6, 7, none)), "none")
	judged(t, list(get(4, 5, x), late, get(4, 7, none)), "2 1 0")
	// Once at most.
	judged(t, list(late, get(4, 5, x), remove(6, 7, reply(api.RDone)), get(8, 9, x)), "none")
	judged(t, list(late, get(4, 5, x), remove(6, 7, reply(api.RDone)), get(8, 9, none)), "0 1 2 3")
	judged(t, list(late, get(4, 5, none), remove(6, 7, none), get(8, 9, x)), "1 2 0 3")
	// Another open one gives it back.
	judged(t, list(late, get(4, 5, x), remove(6, 7, reply(api.RDone)), get(8, 9, x), late), "0 1 2 4 3")
	// An open swap that meets another value, and an open delete of nothing, change nothing, but may be done.
	judged(t, list(opened(swap("y", "x", 3, 0, reply(0))), put("x", 1, 2, reply(api.RDone)), get(4, 5, y)), "1 0 2")
	judged(t, list(opened(swap("y", "z", 3, 0, reply(0))), put("x", 1, 2, reply(api.RDone)), get(4, 5, y)), "none")
	judged(t, list(put("x", 1, 2, reply(api.RDone)), opened(remove(3, 0, reply(0))), get(4, 5, none)), "0 1 2")
}

// The lesser number is ahead, place by place, even of an open one that changes nothing: but a front is ahead of what goes on.
func TestP16_4_First(t *testing.T) {
	none := reply(api.RNone)
	nothing := opened(remove(1, 0, reply(0)))
	judged(t, list(nothing, get(2, 3, none)), "0 1")
	judged(t, list(get(2, 3, none), nothing), "0")
	judged(t, list(nothing, get(2, 3, none), nothing), "0 1")
	judged(t, list(nothing, nothing, get(2, 3, none), nothing), "0 1 2")
	judged(t, list(nothing, nothing, nothing), "")
	// 0 1 2 .. would go on; 1 is ahead of 2, though 2 alone were enough.
	x := opened(put("x", 1, 0, reply(0)))
	judged(t, list(x, x, get(2, 3, reply(api.RDone, "x"))), "0 1 2")
	judged(t, list(get(2, 3, reply(api.RDone, "x")), x, x), "1 0")
	judged(t, list(x, get(2, 3, reply(api.RDone, "x")), x), "0 1")
	judged(t, list(x, get(2, 3, none), x), "1")
	// All at one time: as they stand, if they may.
	var h []api.Op
	for range api.MaxOps {
		h = append(h, get(5, 5, none))
	}
	judged(t, h, "0 1 2 3 4 5 6 7 8 9 10 11")
	h[0] = remove(5, 5, reply(api.RDone))
	h[11] = put("x", 5, 5, reply(api.RDone))
	judged(t, h, "1 2 3 4 5 6 7 8 9 10 11 0")
	h[3] = get(5, 5, reply(api.RDone, "x"))
	judged(t, h, "1 2 4 5 6 7 8 9 10 11 3 0")
	// Later ones ahead, as they were called.
	h = h[:0]
	for i := range api.MaxOps {
		h = append(h, get(100-2*i, 101-2*i, none))
	}
	judged(t, h, "11 10 9 8 7 6 5 4 3 2 1 0")
}

// The numbers are those of the history, whatever stands between.
func TestP16_4_Numbers(t *testing.T) {
	done := reply(api.RDone)
	h := list(
		of("b", put("q", 1, 2, done)),
		opened(get(1, 0, reply(0))),
		put("z", 1, 2, reply(api.RFull)),
		get(9, 9, reply(api.RDone, "x")),
		of("", get(1, 2, done)), // which no order explains
		put("x", 3, 4, done),
	)
	order, ok, e := lin.Explain(h, "a")
	is(t, say(order, ok, e), say([]int{5, 3}, true, api.OK))
	order, ok, e = lin.Explain(h, "b")
	is(t, say(order, ok, e), say([]int{0}, true, api.OK))
	order, ok, e = lin.Explain(h, "")
	is(t, say(order, ok, e), say([]int{}, false, api.OK))
	for len(h) < api.MaxHistory-2 {
		h = append(h, of(fmt.Sprint(len(h)), put("x", 1, 2, done)))
	}
	h = append(h, remove(10, 11, done), get(12, 13, reply(api.RNone)))
	order, ok, e = lin.Explain(h, "a")
	is(t, say(order, ok, e), say([]int{5, 3, 398, 399}, true, api.OK))
}

func TestP16_5_Check(t *testing.T) {
	done := reply(api.RDone)
	yes, no := put("x", 1, 2, done), remove(1, 2, done)
	for _, c := range []struct {
		h  []api.Op
		ok bool
	}{
		{nil, true},
		{list(yes), true},
		{list(no), false},
		{list(yes, of("b", yes), of("", yes)), true},
		{list(of("b", no), yes, of("c", yes)), false},
		{list(of("b", yes), no, of("c", yes)), false},
		{list(of("b", yes), yes, of("c", no)), false},
		{list(of("b", yes), yes, of("", no)), false},
		{list(of("b", no), of("a", no)), false},
		// Of two keys: each alone.
		{list(yes, of("b", no)), false},
		{list(yes, of("b", get(3, 4, reply(api.RDone, "x")))), false},
		{list(yes, of("b", get(3, 4, reply(api.RNone)))), true},
		// What doesn't count is no matter.
		{list(of("b", remove(1, 2, reply(api.RLost))), yes), true},
		{list(of("b", opened(get(1, 0, done)))), true},
	} {
		ok, e := lin.Check(c.h)
		if ok != c.ok || e != api.OK {
			t.Errorf("have %v, %d; want %v of\n%s", ok, e, c.ok, showAll(c.h))
		}
	}
}

// As many keys as there may be, one of them wrong, wherever it stands.
func TestP16_5_AnyKey(t *testing.T) {
	var h []api.Op
	for i := range api.MaxHistory {
		h = append(h, of(fmt.Sprintf("%03d", i*7%api.MaxHistory), put("x", 1, 2, reply(api.RDone))))
	}
	ok, e := lin.Check(h)
	is(t, say(ok, e), say(true, api.OK))
	for i := range h {
		l := slices.Clone(h)
		l[i].Reply = reply(api.RNone)
		ok, e := lin.Check(l)
		is(t, say(ok, e), say(false, api.OK))
	}
}

// The worst that may be asked for ends soon: what fails is searched once.
func TestP16_5_ItEnds(t *testing.T) {
	var h []api.Op
	for i := range api.MaxHistory {
		x := of(fmt.Sprint(i/api.MaxOps), opened(put(fmt.Sprint(i), 1, 0, reply(0))))
		if i%api.MaxOps == 5 {
			x = of(x.Key, get(7, 8, reply(api.RDone, "never put")))
		}
		h = append(h, x)
	}
	ok, e := lin.Check(h)
	is(t, say(ok, e), say(false, api.OK))
	for _, key := range lin.Keys(h) {
		order, ok, e := lin.Explain(h, key)
		want := say([]int{}, false, api.OK)
		if key == "33" { // the last four, without the read
			want = say([]int{}, true, api.OK)
		}
		is(t, say(order, ok, e), want)
	}
}
