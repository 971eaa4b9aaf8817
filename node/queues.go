package node

import (
	"slices"

	"synod/api"
	"synod/core"
	"synod/queue"
)

// queues stand between the tasks, and between them and what is outside.
type queues struct {
	inbox   *queue.Queue[[]byte]
	ticks   *queue.Queue[int] // draws
	calls   *queue.Queue[Call]
	jobs    *queue.Queue[job]
	applies *queue.Queue[apply]
	out     *queue.Lanes[api.Message] // a node's lane is its id less 1
	notices endless[notice]
}

// job is what the writer has to do: a work's writing, or, without a number, a snapshot of the store to be saved.
type job struct {
	number   int
	hasState bool
	state    api.State
	snap     api.Snap
	entries  []api.Entry
	after    []api.Message
}

// saves tells whether it is a snapshot of the store.
func (j job) saves() bool { return j.number == 0 }

// apply is what the applier has to do.
type apply struct {
	snap    api.Snap
	entries []api.Entry
	reads   []core.Read
}

// notice is what the loop is told by the writer and by the applier.
type notice struct {
	kind   int
	number int      // a work's, or an index
	snap   api.Snap // of the store
}

// The kinds of notices.
const (
	synced  = 1
	applied = 2
	taken   = 3
	saved   = 4
)

func newQueues(o Opts) queues {
	return queues{
		inbox:   queue.New[[]byte](o.Inbox),
		ticks:   queue.New[int](o.Ticks),
		calls:   queue.New[Call](o.Calls),
		jobs:    queue.New[job](o.Jobs),
		applies: queue.New[apply](o.Applies),
		out:     queue.NewLanes[api.Message](o.Core.Nodes, o.Out),
	}
}

// post lays messages into the out lanes. What has no room is dropped: the core sends it again in time.
func (q *queues) post(l []api.Message) {
	for _, m := range l {
		q.out.Put(m.To-1, m)
	}
}

// endless is a queue without a bound: queues one behind the other, none of which is empty.
type endless[T any] struct{ parts []*queue.Queue[T] }

func (q *endless[T]) put(x T) {
	if n := len(q.parts); n == 0 || q.parts[n-1].Room() == 0 {
		q.parts = append(q.parts, queue.New[T](api.MaxQueue))
	}
	q.parts[len(q.parts)-1].Put(x)
}

func (q *endless[T]) peek() (x T, ok bool) {
	if len(q.parts) == 0 {
		return x, false
	}
	return q.parts[0].Peek()
}

// drop takes the first one out; there is one, as peek told.
func (q *endless[T]) drop() {
	first := q.parts[0]
	first.Take()
	if first.Len() == 0 {
		q.parts = slices.Delete(q.parts, 0, 1)
	}
}

func (q *endless[T]) len() int {
	n := 0
	for _, p := range q.parts {
		n += p.Len()
	}
	return n
}
