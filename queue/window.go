package queue

// Window holds numbers that rise.
type Window struct {
	numbers *Queue[int]
}

// NewWindow makes an empty window.
func NewWindow(room int) *Window {
	numbers := New[int](room)
	if numbers == nil {
		return nil
	}
	return &Window{numbers}
}

// Add lays a number into it.
func (w *Window) Add(n int) bool {
	if l := w.numbers.items; len(l) > 0 && n <= l[len(l)-1] {
		return false
	}
	return w.numbers.Put(n)
}

// Free takes numbers out.
func (w *Window) Free(upTo int) int {
	gone := 0
	for {
		n, ok := w.numbers.Peek()
		if !ok || n > upTo {
			return gone
		}
		w.numbers.Take()
		gone++
	}
}

// Full tells whether there is no room.
func (w *Window) Full() bool { return w.numbers.Room() == 0 }

// Items are its numbers.
func (w *Window) Items() []int { return w.numbers.Items() }

// Clear takes all out.
func (w *Window) Clear() { w.numbers.Clear() }
