package queue_test

import (
	"fmt"
	"iter"
	"math"
	"strings"
	"testing"

	"synod/api"
	"synod/queue"
)

// say is all of a list of answers, as one text.
func say(l ...any) string { return strings.TrimSuffix(fmt.Sprintln(l...), "\n") }

// is holds an answer against the one that the document asks.
func is(t *testing.T, have, want any) {
	t.Helper()
	if say(have) != say(want) {
		t.Errorf("have %v; want %v", have, want)
	}
}

// made is a queue of a room with things in it.
func made[T any](t *testing.T, room int, things ...T) *queue.Queue[T] {
	t.Helper()
	q := queue.New[T](room)
	if q == nil {
		t.Fatalf("New(%d) is nil", room)
	}
	for _, x := range things {
		if !q.Put(x) {
			t.Fatalf("no room for %v", x)
		}
	}
	return q
}

// holds holds all that a queue tells against a room and things.
func holds[T any](t *testing.T, q *queue.Queue[T], room int, want ...T) {
	t.Helper()
	is(t, say(q.Len(), q.Room(), q.Items()), say(len(want), room-len(want), want))
	x, ok := q.Peek()
	if ok != (len(want) > 0) {
		t.Errorf("Peek is %v, %t of %v", x, ok, want)
	}
	var first T
	if len(want) > 0 {
		first = want[0]
	}
	is(t, x, first)
	n := 0
	for i, x := range q.Each() {
		if n >= len(want) {
			t.Fatalf("Each has %v at %d behind the end", x, i)
		}
		is(t, say(i, x), say(n, want[n]))
		n++
	}
	is(t, n, len(want))
}

// The calls have the types that the chapter gives them.
var (
	_ func(int) *queue.Queue[string]                                  = queue.New[string]
	_ func(*queue.Queue[string], string) bool                         = (*queue.Queue[string]).Put
	_ func(*queue.Queue[string]) (string, bool)                       = (*queue.Queue[string]).Take
	_ func(*queue.Queue[string]) (string, bool)                       = (*queue.Queue[string]).Peek
	_ func(*queue.Queue[string]) int                                  = (*queue.Queue[string]).Len
	_ func(*queue.Queue[string]) int                                  = (*queue.Queue[string]).Room
	_ func(*queue.Queue[string]) []string                             = (*queue.Queue[string]).Items
	_ func(*queue.Queue[string]) iter.Seq2[int, string]               = (*queue.Queue[string]).Each
	_ func(*queue.Queue[string]) int                                  = (*queue.Queue[string]).Clear
	_ func(*queue.Queue[string], *queue.Queue[string], int) int       = queue.Move[string]
	_ func(int) *queue.Window                                         = queue.NewWindow
	_ func(*queue.Window, int) bool                                   = (*queue.Window).Add
	_ func(*queue.Window, int) int                                    = (*queue.Window).Free
	_ func(*queue.Window) bool                                        = (*queue.Window).Full
	_ func(*queue.Window) []int                                       = (*queue.Window).Items
	_ func(*queue.Window)                                             = (*queue.Window).Clear
	_ func(int, int) *queue.Lanes[string]                             = queue.NewLanes[string]
	_ func(*queue.Lanes[string], int, string) bool                    = (*queue.Lanes[string]).Put
	_ func(*queue.Lanes[string]) (lane int, x string, something bool) = (*queue.Lanes[string]).Take
	_ func(*queue.Lanes[string]) int                                  = (*queue.Lanes[string]).Len
	_ func(*queue.Lanes[string], int) []string                        = (*queue.Lanes[string]).Items
)

func TestP7_1_Example(t *testing.T) {
	q := queue.New[int](2)
	is(t, say(q.Put(5), q.Put(6), q.Put(7), q.Items(), q.Room()), "true true false [5 6] 0")
	is(t, say(q.Peek()), "5 true")
	is(t, say(q.Take()), "5 true")
	is(t, say(q.Take()), "6 true")
	is(t, say(q.Take()), "0 false")
	if queue.New[int](0) != nil {
		t.Error("New(0) is not nil")
	}
}

// wrongs are numbers that are no room, and no number of lanes.
func wrongs() []int {
	return []int{0, -1, -2, -api.MaxQueue, api.MaxQueue + 1, api.MaxQueue + 2, 1 << 32, 1<<32 + 1, math.MaxInt, math.MinInt, math.MinInt + 1}
}

func TestP7_1_WrongRoom(t *testing.T) {
	for _, room := range wrongs() {
		if queue.New[int](room) != nil || queue.New[string](room) != nil || queue.New[[]byte](room) != nil {
			t.Errorf("New(%d) is not nil", room)
		}
	}
}

// Every room there is, up to a Put too many and a Take too many.
func TestP7_1_EachRoom(t *testing.T) {
	for room := 1; room <= api.MaxQueue; room++ {
		q := made[int](t, room)
		holds(t, q, room)
		var l []int
		for i := range room {
			is(t, q.Put(10+i), true)
			l = append(l, 10+i)
			holds(t, q, room, l...)
		}
		is(t, q.Put(99), false)
		holds(t, q, room, l...)
		for i := range room {
			is(t, say(q.Peek()), say(10+i, true))
			is(t, say(q.Take()), say(10+i, true))
			holds(t, q, room, l[i+1:]...)
		}
		is(t, say(q.Take()), "0 false")
		is(t, say(q.Peek()), "0 false")
		is(t, q.Clear(), 0)
		holds(t, q, room)
	}
}

// A queue that is empty gives nothing, and has its whole room behind it.
func TestP7_1_Empty(t *testing.T) {
	q := made[string](t, 2)
	for range 3 {
		x, ok := q.Take()
		is(t, say(x == "", ok), "true false")
		x, ok = q.Peek()
		is(t, say(x == "", ok), "true false")
		is(t, q.Clear(), 0)
		for range q.Each() {
			t.Error("Each has something")
		}
		holds(t, q, 2)
	}
	is(t, say(q.Put("a"), q.Put("b"), q.Put("c")), "true true false")
	holds(t, q, 2, "a", "b")
}

// What was refused is not there later.
func TestP7_1_PutRefused(t *testing.T) {
	q := made(t, 3, "a", "b", "c")
	is(t, say(q.Put("d"), q.Put("e")), "false false")
	is(t, say(q.Take()), "a true")
	holds(t, q, 3, "b", "c")
	is(t, say(q.Put("f"), q.Put("g")), "true false")
	holds(t, q, 3, "b", "c", "f")
}

// Filled and emptied many times over, with any number of things left in it.
func TestP7_1_ManyTimesOver(t *testing.T) {
	for _, room := range []int{1, 2, 3, 7, 63, 64} {
		for stay := range room {
			q := made[int](t, room)
			next, first := 0, 0
			for range 50 {
				for q.Put(next) {
					next++
				}
				is(t, say(q.Len(), q.Room()), say(room, 0))
				for q.Len() > stay {
					is(t, say(q.Take()), say(first, true))
					first++
				}
			}
			is(t, next-first, stay)
		}
	}
}

func TestP7_1_PeekStays(t *testing.T) {
	q := made(t, 3, 7, 8)
	for range 3 {
		is(t, say(q.Peek()), "7 true")
	}
	holds(t, q, 3, 7, 8)
	is(t, q.Put(9), true)
	is(t, say(q.Peek()), "7 true")
}

func TestP7_1_Clear(t *testing.T) {
	for n := range api.MaxQueue + 1 {
		q := made[int](t, api.MaxQueue)
		for i := range n {
			q.Put(i)
		}
		is(t, say(q.Clear(), q.Clear()), say(n, 0))
		holds(t, q, api.MaxQueue)
		is(t, say(q.Take()), "0 false")
		for i := range api.MaxQueue {
			is(t, q.Put(100+i), true)
		}
		is(t, q.Put(1), false)
		is(t, say(q.Take()), "100 true")
		is(t, q.Clear(), api.MaxQueue-1)
	}
}

// Zero things are things like others.
func TestP7_1_ZeroThings(t *testing.T) {
	q := made(t, 2, 0, 0)
	is(t, q.Put(0), false)
	holds(t, q, 2, 0, 0)
	is(t, say(q.Take()), "0 true")
	is(t, say(q.Take()), "0 true")
	is(t, say(q.Take()), "0 false")
}

// kinds plays a queue of any kind of things.
func kinds[T any](t *testing.T, a, b, c T) {
	t.Helper()
	q := made(t, 2, a, b)
	is(t, q.Put(c), false)
	holds(t, q, 2, a, b)
	x, ok := q.Take()
	is(t, say(x, ok), say(a, true))
	is(t, q.Put(c), true)
	holds(t, q, 2, b, c)
	to := made(t, 3, a)
	is(t, queue.Move(q, to, 2), 2)
	holds(t, to, 3, a, b, c)
	holds(t, q, 2)
	var zero T
	x, ok = q.Take()
	is(t, say(x, ok), say(zero, false))
	x, ok = q.Peek()
	is(t, say(x, ok), say(zero, false))

	l := queue.NewLanes[T](2, 1)
	is(t, say(l.Put(1, b), l.Put(0, a), l.Put(0, c)), "true true false")
	lane, x, ok := l.Take()
	is(t, say(lane, x, ok), say(0, a, true))
	lane, x, ok = l.Take()
	is(t, say(lane, x, ok), say(1, b, true))
	lane, x, ok = l.Take()
	is(t, say(lane, x, ok), say(0, zero, false))
}

func TestP7_1_ThingsOfSeveralTypes(t *testing.T) {
	one, two, three := 1, 2, 3
	kinds(t, 1, 2, 3)
	kinds(t, "a", "", "c")
	kinds(t, true, false, true)
	kinds(t, 1.5, math.Inf(1), math.NaN())
	kinds(t, &one, &two, &three)
	kinds(t, []byte("a"), nil, []byte("c"))
	kinds(t, map[string]int{"a": 1}, nil, map[string]int{})
	kinds[any](t, 1, "b", nil)
	kinds[error](t, fmt.Errorf("a"), nil, fmt.Errorf("c"))
	kinds(t, struct{}{}, struct{}{}, struct{}{})
	kinds(t, [3]int{1, 2, 3}, [3]int{}, [3]int{3})
	kinds(t, api.Entry{Term: 1, Index: 2, Data: []byte("a")}, api.Entry{}, api.Entry{Term: 3})
	kinds(t, func() {}, nil, func() {})
	kinds(t, make(chan int), nil, make(chan int))
	kinds(t, queue.New[int](1), nil, queue.New[int](2))
}

// Things are kept as they are: a list that was put is the same list when it is taken.
func TestP7_1_TheThingItself(t *testing.T) {
	b := []byte("abc")[:1]
	q := made(t, 1, b)
	x, _ := q.Peek()
	b[0] = 'x'
	is(t, string(x[:3]), "xbc")
	y, _ := q.Take()
	is(t, string(y[:3]), "xbc")
}

// Queues know nothing of one another.
func TestP7_1_TwoQueues(t *testing.T) {
	a, b := made(t, 2, 1), made(t, 2, 2)
	is(t, say(a.Put(3), b.Put(4)), "true true")
	holds(t, a, 2, 1, 3)
	is(t, say(a.Take()), "1 true")
	is(t, a.Clear(), 1)
	holds(t, b, 2, 2, 4)
	holds(t, a, 2)
}
