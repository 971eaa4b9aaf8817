package queue_test

import (
	"math"
	"testing"

	"synod/queue"
)

// filled is a queue of n numbers that rise, and these numbers.
func filled(t *testing.T, room, n, first int) (*queue.Queue[int], []int) {
	t.Helper()
	var l []int
	for i := range n {
		l = append(l, first+i)
	}
	return made(t, room, l...), l
}

// All rooms up to 4, all fillings, all numbers around the edges.
func TestP7_2_EachCase(t *testing.T) {
	for a := 1; a <= 4; a++ {
		for b := 1; b <= 4; b++ {
			for n := 0; n <= a; n++ {
				for m := 0; m <= b; m++ {
					for _, most := range []int{math.MinInt, -2, -1, 0, 1, 2, 3, 4, 5, 64, 65, math.MaxInt} {
						from, ahead := filled(t, a, n, 1)
						to, there := filled(t, b, m, 101)
						want := 0
						for want < n && m+want < b && want < most {
							want++
						}
						is(t, queue.Move(from, to, most), want)
						holds(t, from, a, ahead[want:]...)
						holds(t, to, b, append(there, ahead[:want]...)...)
					}
				}
			}
		}
	}
}

func TestP7_2_None(t *testing.T) {
	from, to := made(t, 4, "a", "b"), made(t, 4, "x")
	for _, most := range []int{0, -1, -5, math.MinInt} {
		is(t, queue.Move(from, to, most), 0)
	}
	holds(t, from, 4, "a", "b")
	holds(t, to, 4, "x")
}

func TestP7_2_FewerThanThereAre(t *testing.T) {
	from, to := made(t, 4, "a", "b", "c", "d"), made(t, 4, "x")
	is(t, queue.Move(from, to, 2), 2)
	holds(t, from, 4, "c", "d")
	holds(t, to, 4, "x", "a", "b")
	is(t, queue.Move(from, to, 1), 1)
	holds(t, from, 4, "d")
	holds(t, to, 4, "x", "a", "b", "c")
}

func TestP7_2_More(t *testing.T) {
	from, to := made(t, 4, "a", "b"), made[string](t, 64)
	is(t, queue.Move(from, to, math.MaxInt), 2)
	is(t, queue.Move(from, to, math.MaxInt), 0)
	holds(t, from, 4)
	holds(t, to, 64, "a", "b")
}

func TestP7_2_FullOrNearly(t *testing.T) {
	from, to := made(t, 4, "a", "b", "c"), made(t, 3, "x", "y")
	is(t, queue.Move(from, to, 3), 1)
	holds(t, from, 4, "b", "c")
	holds(t, to, 3, "x", "y", "a")
	is(t, queue.Move(from, to, 3), 0)
	holds(t, from, 4, "b", "c")
	holds(t, to, 3, "x", "y", "a")
}

// To and fro, again and again: both go on as queues.
func TestP7_2_ToAndFro(t *testing.T) {
	a, b := made(t, 5, 1, 2, 3), made(t, 3, 4)
	for range 101 {
		is(t, queue.Move(a, b, 2), 2)
		is(t, queue.Move(b, a, 9), 3)
		is(t, queue.Move(a, b, 1), 1)
	}
	// Each round lets them go round by one place; four of them are none.
	holds(t, a, 5, 4, 1, 2)
	holds(t, b, 3, 3)
}

// The document speaks of two queues; of one alone it still ends, and nothing is lost.
func TestP7_2_OneAloneEnds(t *testing.T) {
	for n := range 5 {
		q, l := filled(t, 4, n, 1)
		went := queue.Move(q, q, math.MaxInt)
		if went < 0 || went > 4 {
			t.Errorf("%d went of %d", went, n)
		}
		is(t, q.Len(), len(l))
		is(t, say(q.Room()), 4-len(l))
	}
}
