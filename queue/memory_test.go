package queue_test

import (
	"runtime"
	"testing"
	"weak"

	"synod/queue"
)

// scribble writes a thing all over a list and its spare room.
func scribble[T any](l []T, x T) {
	for i := range l[:cap(l)] {
		l[:cap(l)][i] = x
	}
	_ = append(l, x, x, x)
}

// Whatever is written into an answer, or behind it, no queue shows it, and no other answer.
func TestP7_5_QueueItemsAreNew(t *testing.T) {
	for n := range 9 {
		for taken := range 3 {
			q := made[int](t, 12)
			var want []int
			for i := range taken + n {
				q.Put(i)
				if i >= taken {
					want = append(want, i)
				}
			}
			for range taken {
				q.Take()
			}
			kept, other := q.Items(), q.Items()
			scribble(other, -1)
			is(t, kept, want)
			holds(t, q, 12, want...)
			q.Put(77)
			is(t, kept, want)
			is(t, say(other), say(other[:n]))
			scribble(kept, -2)
			holds(t, q, 12, append(want, 77)...)
			q.Put(78)
			holds(t, q, 12, append(want, 77, 78)...)
		}
	}
}

// What lies behind an answer's length tells nothing of what was taken.
func TestP7_5_SpareRoomTellsNothing(t *testing.T) {
	q := made(t, 8, 1, 2, 3, 4, 5, 6, 7, 8)
	for range 8 {
		q.Take()
		l := q.Items()
		for _, x := range l[len(l):cap(l)] {
			is(t, x, 0)
		}
	}
}

// An answer that was handed out stays what it is, whatever is done later.
func TestP7_5_AnswersStay(t *testing.T) {
	q, w, l := made(t, 3, 1, 2), window(t, 3, 1, 2), lanes[int](t, 2, 3)
	lay(t, l, 1, 1, 2)
	a, b, c := q.Items(), w.Items(), l.Items(1)
	q.Take()
	q.Put(9)
	q.Put(8)
	w.Free(1)
	w.Add(9)
	w.Add(10)
	l.Take()
	lay(t, l, 1, 9, 8)
	for _, x := range [][]int{a, b, c} {
		is(t, x, []int{1, 2})
	}
	q.Clear()
	w.Clear()
	is(t, say(a, b), "[1 2] [1 2]")
}

func TestP7_5_WindowItemsAreNew(t *testing.T) {
	for n := range 9 {
		w := window(t, 12)
		w.Add(-1)
		var want []int
		for i := range n {
			w.Add(i)
			want = append(want, i)
		}
		w.Free(-1)
		kept, other := w.Items(), w.Items()
		scribble(other, 1000)
		is(t, kept, want)
		shows(t, w, 12, want...)
		is(t, w.Add(77), true)
		is(t, kept, want)
		scribble(kept, 1000)
		shows(t, w, 12, append(want, 77)...)
		is(t, w.Add(78), true)
		shows(t, w, 12, append(want, 77, 78)...)
	}
}

func TestP7_5_LaneItemsAreNew(t *testing.T) {
	for n := range 9 {
		l := lanes[string](t, 2, 12)
		var want []string
		for i := range n {
			lay(t, l, 0, say(i))
			lay(t, l, 1, "other")
			want = append(want, say(i))
		}
		kept, other := l.Items(0), l.Items(0)
		scribble(other, "x")
		scribble(l.Items(1), "x")
		is(t, kept, want)
		is(t, l.Items(0), want)
		lay(t, l, 0, "y")
		is(t, kept, want)
		scribble(kept, "x")
		is(t, l.Items(0), append(want, "y"))
		is(t, len(l.Items(1)), n)
	}
}

// heavy is a thing that has memory of its own.
type heavy struct {
	bytes [256]byte
	next  *heavy
}

// watched are n things and a way to ask which of them are still kept by anyone.
func watched(n int) (things []*heavy, kept func() []int) {
	var watch []weak.Pointer[heavy]
	for range n {
		x := &heavy{}
		things, watch = append(things, x), append(watch, weak.Make(x))
	}
	return things, func() (l []int) {
		runtime.GC()
		for i, w := range watch {
			if w.Value() != nil {
				l = append(l, i)
			}
		}
		return l
	}
}

// laid is a queue of n things, which nobody else keeps.
func laid(n, room int) (*queue.Queue[*heavy], func() []int) {
	things, kept := watched(n)
	q := queue.New[*heavy](room)
	for _, x := range things {
		q.Put(x)
	}
	return q, kept
}

func TestP7_5_TakenIsKeptNoLonger(t *testing.T) {
	q, kept := laid(5, 5)
	is(t, kept(), []int{0, 1, 2, 3, 4})
	for i := range 5 {
		q.Take()
		is(t, kept(), []int{0, 1, 2, 3, 4}[i+1:])
		is(t, q.Len(), 4-i)
	}
	runtime.KeepAlive(q)
}

// Taken and put by turns: only those that are in it are kept.
func TestP7_5_KeptWhilePutting(t *testing.T) {
	things, kept := watched(40)
	q := queue.New[*heavy](3)
	for i := range things {
		if q.Room() == 0 {
			q.Take()
		}
		q.Put(things[i])
		things[i] = nil
	}
	is(t, kept(), []int{37, 38, 39})
	q.Take()
	is(t, kept(), []int{38, 39})
	runtime.KeepAlive(q)
}

func TestP7_5_ClearedIsKeptNoLonger(t *testing.T) {
	q, kept := laid(5, 9)
	s := q.Each()
	is(t, q.Clear(), 5)
	is(t, len(kept()), 0)
	runtime.KeepAlive(q)
	runtime.KeepAlive(s)
}

// A thing that had no room isn't kept, nor one that no lane was there for.
func TestP7_5_RefusedIsNotKept(t *testing.T) {
	q, l := queue.New[*heavy](1), queue.NewLanes[*heavy](1, 1)
	q.Put(nil)
	l.Put(0, nil)
	things, kept := watched(4)
	is(t, say(q.Put(things[0]), l.Put(0, things[1]), l.Put(1, things[2]), l.Put(-1, things[3])), "false false false false")
	clear(things)
	is(t, len(kept()), 0)
	runtime.KeepAlive(q)
	runtime.KeepAlive(l)
}

// Peek, Items and Each leave nothing behind that would keep a thing.
func TestP7_5_LooksKeepNothing(t *testing.T) {
	q, kept := laid(4, 4)
	s := q.Each()
	for range s {
		break
	}
	for i := range s {
		is(t, i < 4, true)
	}
	q.Items()
	q.Peek()
	q.Take()
	is(t, kept(), []int{1, 2, 3})
	runtime.KeepAlive(q)
	runtime.KeepAlive(s)
}

func TestP7_5_MovedIsKeptByOneAlone(t *testing.T) {
	from, kept := laid(5, 5)
	to := queue.New[*heavy](3)
	is(t, queue.Move(from, to, 9), 3)
	is(t, kept(), []int{0, 1, 2, 3, 4})
	to.Clear()
	is(t, kept(), []int{3, 4})
	is(t, queue.Move(from, to, 1), 1)
	to.Take()
	is(t, kept(), []int{4})
	runtime.KeepAlive(from)
	runtime.KeepAlive(to)
}

func TestP7_5_TakenFromLanesIsKeptNoLonger(t *testing.T) {
	things, kept := watched(6)
	l := queue.NewLanes[*heavy](3, 2)
	for i, x := range things {
		l.Put(i%3, x)
	}
	clear(things)
	for i := range 6 {
		l.Take()
		is(t, kept(), []int{0, 1, 2, 3, 4, 5}[i+1:])
	}
	runtime.KeepAlive(l)
}

// Things that are structs or lists keep what they hold no longer, too.
func TestP7_5_ThingsWithin(t *testing.T) {
	things, kept := watched(4)
	a, b := queue.New[heavy](2), queue.New[[]*heavy](2)
	a.Put(heavy{next: things[0]})
	a.Put(heavy{next: things[1]})
	b.Put([]*heavy{things[2]})
	b.Put([]*heavy{things[3]})
	clear(things)
	a.Take()
	b.Take()
	is(t, kept(), []int{1, 3})
	runtime.KeepAlive(a)
	runtime.KeepAlive(b)
}
