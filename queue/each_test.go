package queue_test

import (
	"iter"
	"testing"

	"synod/queue"
)

// gone are the places and the things of a sequence, up to a number of them.
func gone[T any](s iter.Seq2[int, T], most int) (places []int, things []T) {
	for i, x := range s {
		places, things = append(places, i), append(things, x)
		if len(places) == most {
			break
		}
	}
	return
}

// One sequence is gone over again and again: each time it has what there is then.
func TestP7_1_EachAgain(t *testing.T) {
	q := made(t, 3, "a", "b")
	s := q.Each()
	for range 3 {
		is(t, say(gone(s, 9)), "[0 1] [a b]")
	}
	q.Put("c")
	is(t, say(gone(s, 9)), "[0 1 2] [a b c]")
	q.Take()
	is(t, say(gone(s, 9)), "[0 1] [b c]")
	q.Clear()
	is(t, say(gone(s, 9)), "[] []")
	q.Put("d")
	is(t, say(gone(s, 9)), "[0] [d]")
	holds(t, q, 3, "d")
}

// A sequence that was made of an empty queue has what was put later.
func TestP7_1_EachMadeAhead(t *testing.T) {
	q := made[int](t, 2)
	s := q.Each()
	q.Put(5)
	is(t, say(gone(s, 9)), "[0] [5]")
}

func TestP7_1_EachEndedEarly(t *testing.T) {
	q := made(t, 5, 1, 2, 3, 4, 5)
	s := q.Each()
	for most := 1; most <= 5; most++ {
		_, l := gone(s, most)
		is(t, len(l), most)
		holds(t, q, 5, 1, 2, 3, 4, 5)
	}
	// The one that goes over it is asked no more when it has said no.
	for stop := range 5 {
		asked := 0
		s(func(i, x int) bool {
			asked++
			is(t, x, i+1)
			return i < stop
		})
		is(t, asked, stop+1)
	}
}

// change is something that is done to a queue of 1, 2, 3 and the room 4 while it is gone over.
type change struct {
	name string
	do   func(q *queue.Queue[int])
	left []int
}

func changes() []change {
	return []change{
		{"nothing", func(q *queue.Queue[int]) {}, []int{1, 2, 3}},
		{"Put", func(q *queue.Queue[int]) { q.Put(9) }, []int{1, 2, 3, 9}},
		{"two Puts", func(q *queue.Queue[int]) { q.Put(9); q.Put(8) }, []int{1, 2, 3, 9}},
		{"Take", func(q *queue.Queue[int]) { q.Take() }, []int{2, 3}},
		{"Clear", func(q *queue.Queue[int]) { q.Clear() }, nil},
		{"Take and Put", func(q *queue.Queue[int]) { q.Take(); q.Put(9); q.Put(8) }, []int{2, 3, 9, 8}},
		{"Clear and Put", func(q *queue.Queue[int]) { q.Clear(); q.Put(9) }, []int{9}},
		{"Items, written over", func(q *queue.Queue[int]) { clear(q.Items()) }, []int{1, 2, 3}},
		{"Move away", func(q *queue.Queue[int]) { queue.Move(q, queue.New[int](9), 2) }, []int{3}},
	}
}

// What it is gone over is what there was when that began, whatever is done meanwhile.
func TestP7_1_EachWhileChanged(t *testing.T) {
	for _, c := range changes() {
		for at := range 3 {
			q := made(t, 4, 1, 2, 3)
			var l []int
			for i, x := range q.Each() {
				is(t, i, len(l))
				l = append(l, x)
				if i == at {
					c.do(q)
				}
			}
			if say(l) != "[1 2 3]" {
				t.Errorf("%s at %d: %v", c.name, at, l)
			}
			holds(t, q, 4, c.left...)
		}
	}
}

// Two goings over, the one within the other one, do not mix.
func TestP7_1_EachWithin(t *testing.T) {
	q := made(t, 3, 1, 2, 3)
	s := q.Each()
	var l []int
	for _, x := range s {
		for _, y := range s {
			l = append(l, 10*x+y)
		}
	}
	is(t, l, []int{11, 12, 13, 21, 22, 23, 31, 32, 33})
}

// It may be pulled, one thing at a time.
func TestP7_1_EachPulled(t *testing.T) {
	q := made(t, 3, 1, 2)
	next, stop := iter.Pull2(q.Each())
	defer stop()
	is(t, say(next()), "0 1 true")
	q.Clear()
	is(t, say(next()), "1 2 true")
	is(t, say(next()), "0 0 false")
}
