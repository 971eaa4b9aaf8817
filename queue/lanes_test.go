package queue_test

import (
	"math"
	"testing"

	"synod/api"
	"synod/queue"
)

// lanes are lanes of a room.
func lanes[T any](t *testing.T, n, room int) *queue.Lanes[T] {
	t.Helper()
	l := queue.NewLanes[T](n, room)
	if l == nil {
		t.Fatalf("NewLanes(%d, %d) is nil", n, room)
	}
	return l
}

// lay puts things into a lane.
func lay[T any](t *testing.T, l *queue.Lanes[T], lane int, things ...T) {
	t.Helper()
	for _, x := range things {
		if !l.Put(lane, x) {
			t.Fatalf("lane %d has no room for %v", lane, x)
		}
	}
}

// has holds all that lanes tell against the things of each of them.
func has[T any](t *testing.T, l *queue.Lanes[T], want ...[]T) {
	t.Helper()
	n := 0
	for lane, things := range want {
		is(t, l.Items(lane), things)
		n += len(things)
	}
	is(t, l.Len(), n)
	for _, lane := range []int{-1, len(want), len(want) + 1, math.MinInt, math.MaxInt} {
		is(t, len(l.Items(lane)), 0)
	}
}

func TestP7_4_Example(t *testing.T) {
	l := queue.NewLanes[string](3, 2)
	is(t, say(l.Put(0, "a"), l.Put(0, "b"), l.Put(2, "c"), l.Put(3, "d"), l.Put(0, "e")), "true true true false false")
	is(t, say(l.Take()), "0 a true")
	is(t, say(l.Take()), "2 c true")
	is(t, say(l.Take()), "0 b true")
	is(t, say(l.Take()), "0  false")
}

func TestP7_4_WrongNumbers(t *testing.T) {
	for _, n := range wrongs() {
		for _, right := range []int{1, 2, api.MaxQueue} {
			if queue.NewLanes[int](n, right) != nil || queue.NewLanes[string](n, right) != nil {
				t.Errorf("NewLanes(%d, %d) is not nil", n, right)
			}
			if queue.NewLanes[int](right, n) != nil || queue.NewLanes[string](right, n) != nil {
				t.Errorf("NewLanes(%d, %d) is not nil", right, n)
			}
		}
		for _, other := range wrongs() {
			if queue.NewLanes[int](n, other) != nil {
				t.Errorf("NewLanes(%d, %d) is not nil", n, other)
			}
		}
	}
}

// Each number of lanes, each filled up to a thing too many and emptied by turns.
func TestP7_4_EachNumber(t *testing.T) {
	for n := 1; n <= api.MaxQueue; n++ {
		for _, room := range []int{1, 2, 5, api.MaxQueue} {
			l := lanes[int](t, n, room)
			is(t, l.Len(), 0)
			is(t, say(l.Take()), "0 0 false")
			for lane := range n {
				for i := range room {
					lay(t, l, lane, 100*lane+i)
				}
				is(t, l.Put(lane, 9), false)
				is(t, l.Len(), (lane+1)*room)
			}
			for i := range room {
				for lane := range n {
					is(t, say(l.Take()), say(lane, 100*lane+i, true))
				}
				is(t, len(l.Items(n-1)), room-i-1)
			}
			is(t, l.Len(), 0)
			is(t, say(l.Take()), "0 0 false")
		}
	}
}

func TestP7_4_NoSuchLane(t *testing.T) {
	for _, n := range []int{1, 2, 3, api.MaxQueue} {
		l := lanes[string](t, n, 2)
		lay(t, l, n-1, "z")
		for _, lane := range []int{-1, -2, -n, n, n + 1, 2 * n, api.MaxQueue, math.MaxInt, math.MinInt} {
			if lane >= 0 && lane < n {
				continue
			}
			is(t, l.Put(lane, "x"), false)
			is(t, len(l.Items(lane)), 0)
		}
		is(t, l.Len(), 1)
		is(t, say(l.Take()), say(n-1, "z", true))
		is(t, say(l.Take()), "0  false")
	}
}

func TestP7_4_FullLane(t *testing.T) {
	l := lanes[string](t, 3, 2)
	lay(t, l, 1, "a", "b")
	is(t, l.Put(1, "c"), false)
	has(t, l, nil, []string{"a", "b"}, nil)
	lay(t, l, 0, "x")
	lay(t, l, 2, "y", "z")
	is(t, say(l.Put(2, "c"), l.Put(0, "w"), l.Put(0, "v")), "false true false")
	has(t, l, []string{"x", "w"}, []string{"a", "b"}, []string{"y", "z"})
}

// Empty lanes between others, and at both ends, are passed over.
func TestP7_4_EmptyBetween(t *testing.T) {
	l := lanes[int](t, 7, 3)
	lay(t, l, 1, 10, 11)
	lay(t, l, 4, 40, 41, 42)
	lay(t, l, 5, 50)
	for _, want := range []string{"1 10 true", "4 40 true", "5 50 true", "1 11 true", "4 41 true", "4 42 true", "0 0 false", "0 0 false"} {
		is(t, say(l.Take()), want)
	}
	has(t, l, nil, nil, nil, nil, nil, nil, []int(nil))
}

// From the last lane on it goes round to lane 0.
func TestP7_4_Round(t *testing.T) {
	l := lanes[string](t, 3, 3)
	lay(t, l, 2, "a", "b")
	is(t, say(l.Take()), "2 a true")
	lay(t, l, 0, "c")
	lay(t, l, 1, "d")
	is(t, say(l.Take()), "0 c true")
	is(t, say(l.Take()), "1 d true")
	is(t, say(l.Take()), "2 b true")
}

// The turn goes on behind the lane that was taken from last, also when all were empty in the meantime.
func TestP7_4_TurnStays(t *testing.T) {
	for lane := range 4 {
		l := lanes[int](t, 4, 2)
		lay(t, l, lane, 7)
		is(t, say(l.Take()), say(lane, 7, true))
		is(t, say(l.Take()), "0 0 false")
		is(t, say(l.Take()), "0 0 false")
		for i := range 4 {
			lay(t, l, i, i)
		}
		for i := range 4 {
			k := (lane + 1 + i) % 4
			is(t, say(l.Take()), say(k, k, true))
		}
		is(t, say(l.Take()), "0 0 false")
	}
}

// Nothing but a Take that takes something changes the turn.
func TestP7_4_WhatLeavesTheTurn(t *testing.T) {
	l := lanes[string](t, 3, 1)
	is(t, say(l.Take()), "0  false")
	lay(t, l, 2, "c")
	is(t, say(l.Put(2, "x"), l.Put(3, "x"), l.Put(-1, "x"), l.Len(), l.Items(2), l.Items(7)), "false false false 1 [c] []")
	lay(t, l, 1, "b")
	lay(t, l, 0, "a")
	is(t, say(l.Take()), "0 a true")
	lay(t, l, 0, "d")
	is(t, say(l.Take()), "1 b true")
	is(t, say(l.Take()), "2 c true")
	is(t, say(l.Take()), "0 d true")
}

func TestP7_4_OneLaneAlone(t *testing.T) {
	l := lanes[string](t, 1, 2)
	for range 5 {
		lay(t, l, 0, "a", "b")
		is(t, say(l.Put(0, "c"), l.Put(1, "c")), "false false")
		has(t, l, []string{"a", "b"})
		is(t, say(l.Take()), "0 a true")
		lay(t, l, 0, "d")
		is(t, say(l.Take()), "0 b true")
		is(t, say(l.Take()), "0 d true")
		is(t, say(l.Take()), "0  false")
	}
}

func TestP7_4_TwoLanes(t *testing.T) {
	a, b := lanes[int](t, 2, 1), lanes[int](t, 2, 1)
	lay(t, a, 0, 1)
	is(t, b.Len(), 0)
	lay(t, b, 0, 2)
	lay(t, b, 1, 3)
	is(t, say(a.Take()), "0 1 true")
	is(t, say(b.Take()), "0 2 true")
}
