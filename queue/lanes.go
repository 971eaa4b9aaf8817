package queue

// Lanes are queues that are served in turn.
type Lanes[T any] struct {
	queues []*Queue[T]
	next   int // the lane that Take looks at first, going round
}

// NewLanes makes empty lanes.
func NewLanes[T any](lanes, room int) *Lanes[T] {
	if !possible(lanes) || !possible(room) {
		return nil
	}
	queues := make([]*Queue[T], lanes)
	for i := range queues {
		queues[i] = New[T](room)
	}
	return &Lanes[T]{queues: queues}
}

// has tells whether there is such a lane.
func (l *Lanes[T]) has(lane int) bool { return 0 <= lane && lane < len(l.queues) }

// Put lays a thing at a lane's end.
func (l *Lanes[T]) Put(lane int, x T) bool { return l.has(lane) && l.queues[lane].Put(x) }

// Take takes the first thing of the next lane.
func (l *Lanes[T]) Take() (lane int, x T, ok bool) {
	for i := range l.queues {
		lane = (l.next + i) % len(l.queues)
		if x, ok = l.queues[lane].Take(); ok {
			l.next = lane + 1
			return lane, x, true
		}
	}
	return 0, x, false
}

// Len tells how many things there are.
func (l *Lanes[T]) Len() int {
	n := 0
	for _, q := range l.queues {
		n += q.Len()
	}
	return n
}

// Items are a lane's things.
func (l *Lanes[T]) Items(lane int) []T {
	if !l.has(lane) {
		return nil
	}
	return l.queues[lane].Items()
}
