package queue_test

import (
	"math"
	"testing"

	"synod/api"
	"synod/queue"
)

// window is a window of a room with numbers in it.
func window(t *testing.T, room int, numbers ...int) *queue.Window {
	t.Helper()
	w := queue.NewWindow(room)
	if w == nil {
		t.Fatalf("NewWindow(%d) is nil", room)
	}
	for _, n := range numbers {
		if !w.Add(n) {
			t.Fatalf("%d isn't added", n)
		}
	}
	return w
}

// shows holds all that a window tells against a room and numbers.
func shows(t *testing.T, w *queue.Window, room int, want ...int) {
	t.Helper()
	is(t, say(w.Items(), w.Full()), say(want, len(want) == room))
}

func TestP7_3_Example(t *testing.T) {
	w := queue.NewWindow(2)
	is(t, say(w.Add(3), w.Add(3), w.Add(9), w.Add(10), w.Full()), "true false true false true")
	is(t, say(w.Free(3), w.Items(), w.Free(3)), "1 [9] 0")
}

func TestP7_3_WrongRoom(t *testing.T) {
	for _, room := range wrongs() {
		if queue.NewWindow(room) != nil {
			t.Errorf("NewWindow(%d) is not nil", room)
		}
	}
}

func TestP7_3_EachRoom(t *testing.T) {
	for room := 1; room <= api.MaxQueue; room++ {
		w := window(t, room)
		shows(t, w, room)
		var l []int
		for i := range room {
			is(t, w.Full(), false)
			is(t, w.Add(3*i-9), true)
			l = append(l, 3*i-9)
			shows(t, w, room, l...)
		}
		is(t, say(w.Add(1000), w.Add(3*room-12), w.Add(-1000)), "false false false")
		shows(t, w, room, l...)
		is(t, w.Free(-9), 1)
		shows(t, w, room, l[1:]...)
		is(t, w.Add(1000), true)
		shows(t, w, room, append(l[1:], 1000)...)
	}
}

// There is room, but the number is there, or is below the greatest one.
func TestP7_3_AddNotAbove(t *testing.T) {
	w := window(t, 5, 10, 20, 30)
	for _, n := range []int{30, 29, 25, 20, 15, 10, 9, 0, -1, -30, math.MinInt} {
		is(t, w.Add(n), false)
	}
	shows(t, w, 5, 10, 20, 30)
	is(t, w.Add(31), true)
	shows(t, w, 5, 10, 20, 30, 31)
}

func TestP7_3_LeastAndGreatest(t *testing.T) {
	w := window(t, 4)
	is(t, say(w.Add(math.MinInt), w.Add(math.MinInt), w.Add(math.MinInt+1), w.Add(math.MaxInt), w.Add(math.MaxInt), w.Add(math.MinInt)), "true false true true false false")
	shows(t, w, 4, math.MinInt, math.MinInt+1, math.MaxInt)
	is(t, w.Free(math.MinInt), 1)
	is(t, w.Free(math.MaxInt-1), 1)
	is(t, w.Add(5), false)
	is(t, w.Free(math.MaxInt), 1)
	shows(t, w, 4)
	is(t, say(w.Add(math.MaxInt), w.Add(math.MinInt), w.Free(math.MaxInt), w.Add(math.MinInt)), "true false 1 true")
}

func TestP7_3_Free(t *testing.T) {
	for _, x := range []struct{ upTo, went int }{
		{math.MinInt, 0}, {-100, 0}, {-6, 0}, {-5, 1}, {-4, 1}, {-1, 1}, {0, 2}, {1, 2}, {6, 2}, {7, 3}, {8, 4}, {9, 4}, {99, 4}, {100, 5}, {101, 5}, {math.MaxInt, 5},
	} {
		l := []int{-5, 0, 7, 8, 100}
		for _, room := range []int{5, 6, 64} {
			w := window(t, room, l...)
			is(t, w.Free(x.upTo), x.went)
			shows(t, w, room, l[x.went:]...)
		}
	}
	w := window(t, 3)
	is(t, say(w.Free(math.MinInt), w.Free(0), w.Free(math.MaxInt)), "0 0 0")
	shows(t, w, 3)
}

// What was in it binds no longer: the next number has to be above those that are there.
func TestP7_3_BehindFree(t *testing.T) {
	w := window(t, 3, 5, 6)
	is(t, say(w.Free(6), w.Add(1)), "2 true")
	shows(t, w, 3, 1)
	is(t, say(w.Free(1), w.Add(1)), "1 true")
	shows(t, w, 3, 1)
	// A number that Free was told is no number of the window.
	is(t, say(w.Free(50), w.Add(2)), "1 true")
	shows(t, w, 3, 2)
}

func TestP7_3_Clear(t *testing.T) {
	w := window(t, 2)
	w.Clear()
	shows(t, w, 2)
	for range 3 {
		is(t, say(w.Add(7), w.Add(9), w.Full()), "true true true")
		w.Clear()
		shows(t, w, 2)
		is(t, say(w.Free(math.MaxInt)), 0)
		is(t, w.Add(-4), true)
		shows(t, w, 2, -4)
		w.Clear()
	}
}

// Filled and emptied many times over, by a number that goes on.
func TestP7_3_ManyTimesOver(t *testing.T) {
	for _, room := range []int{1, 2, 3, 64} {
		w := window(t, room)
		next := -1000
		for i := range 200 {
			for w.Add(next) {
				next++
			}
			is(t, w.Full(), true)
			k := i%room + 1
			is(t, w.Free(next-room+k-1), k)
			is(t, len(w.Items()), room-k)
		}
	}
}

func TestP7_3_TwoWindows(t *testing.T) {
	a, b := window(t, 2, 1), window(t, 2, 5)
	is(t, say(a.Add(2), b.Add(2)), "true false")
	a.Clear()
	shows(t, b, 2, 5)
	is(t, b.Free(5), 1)
	shows(t, a, 2)
}
