package queue_test

import (
	"math/rand/v2"
	"testing"

	"synod/api"
	"synod/queue"
)

// Numbers are put into a first queue, go on from queue to queue, and are taken from the last one.
func TestP7_6_FirstInFirstOut(t *testing.T) {
	r := rand.New(rand.NewPCG(7, 6))
	for range 300 {
		var line []*queue.Queue[int]
		var rooms []int
		for range 1 + r.IntN(4) {
			rooms = append(rooms, 1+r.IntN(9))
			line = append(line, made[int](t, rooms[len(rooms)-1]))
		}
		put, taken := 0, 0
		for range 200 {
			k := r.IntN(len(line))
			switch {
			case r.IntN(3) == 0 && line[0].Put(put):
				put++
			case k+1 < len(line):
				queue.Move(line[k], line[k+1], r.IntN(6)-1)
			default:
				if x, ok := line[k].Take(); ok {
					is(t, x, taken)
					taken++
				}
			}
			held(t, line, rooms, taken, put)
		}
	}
}

// held looks for the numbers from one up to another in a line of queues, the last one ahead: each is there once, and none above a room.
func held(t *testing.T, line []*queue.Queue[int], rooms []int, from, to int) {
	t.Helper()
	for k := len(line) - 1; k >= 0; k-- {
		for _, x := range line[k].Items() {
			if x != from {
				t.Fatalf("%d is where %d is to be", x, from)
			}
			from++
		}
		if n := line[k].Len(); n > rooms[k] || n+line[k].Room() != rooms[k] || n != len(line[k].Items()) {
			t.Fatalf("%d things, room for %d of %d", n, line[k].Room(), rooms[k])
		}
	}
	if from != to {
		t.Fatalf("%d is lost", from)
	}
}

// Move is Take and Put, again and again.
func TestP7_6_MoveIsTakeAndPut(t *testing.T) {
	r := rand.New(rand.NewPCG(7, 7))
	for range 2000 {
		rooms := []int{1 + r.IntN(api.MaxQueue), 1 + r.IntN(api.MaxQueue)}
		var pair [2][2]*queue.Queue[int]
		fill := []int{r.IntN(rooms[0] + 1), r.IntN(rooms[1] + 1)}
		for i := range pair {
			for k := range rooms {
				pair[i][k], _ = filled(t, rooms[k], fill[k], 100*k)
			}
		}
		most := r.IntN(80) - 5
		n := 0
		for n < most && pair[1][0].Len() > 0 && pair[1][1].Room() > 0 {
			x, _ := pair[1][0].Take()
			pair[1][1].Put(x)
			n++
		}
		is(t, queue.Move(pair[0][0], pair[0][1], most), n)
		for k := range rooms {
			holds(t, pair[0][k], rooms[k], pair[1][k].Items()...)
		}
	}
}

// fairness tells, for two lanes a and b, whether b had something all the time since a was taken from, and was not taken from.
type fairness struct {
	waits [][]bool
	taken []bool
}

// took notes a taking, and tells which lanes it passed over without right.
func (f *fairness) took(a int, filled func(lane int) bool) (wronged []int) {
	for b := range f.waits {
		if b != a && f.taken[a] && f.waits[a][b] {
			wronged = append(wronged, b)
		}
	}
	f.taken[a] = true
	for b := range f.waits {
		f.waits[a][b] = filled(b)
		f.waits[b][a] = false
	}
	return wronged
}

func TestP7_7_Fair(t *testing.T) {
	r := rand.New(rand.NewPCG(7, 8))
	takes := 0
	for range 300 {
		n, room := 1+r.IntN(6), 1+r.IntN(4)
		l := lanes[int](t, n, room)
		f := fairness{make([][]bool, n), make([]bool, n)}
		for i := range f.waits {
			f.waits[i] = make([]bool, n)
		}
		often := 1 + r.IntN(3)
		for range 200 {
			if r.IntN(3) < often {
				l.Put(r.IntN(n), 1)
			} else if lane, _, ok := l.Take(); ok {
				takes++
				if wronged := f.took(lane, func(b int) bool { return len(l.Items(b)) > 0 }); wronged != nil {
					t.Fatalf("lane %d is taken from again, while %v wait", lane, wronged)
				}
			}
		}
	}
	if takes < 10000 {
		t.Errorf("%d takings alone", takes)
	}
}

// While all lanes have something, each is taken from once in each round.
func TestP7_7_InTurn(t *testing.T) {
	for n := 1; n <= api.MaxQueue; n++ {
		l := lanes[int](t, n, 2)
		for lane := range n {
			lay(t, l, lane, lane, lane)
		}
		for i := range 5 * n {
			lane, x, ok := l.Take()
			is(t, say(lane, x, ok), say(i%n, i%n, true))
			lay(t, l, lane, lane)
		}
	}
}

// rising tells whether each number is above the one ahead of it.
func rising(l []int) bool {
	for i := 1; i < len(l); i++ {
		if l[i] <= l[i-1] {
			return false
		}
	}
	return true
}

func TestP7_8_Rising(t *testing.T) {
	r := rand.New(rand.NewPCG(7, 9))
	for range 300 {
		room := 1 + r.IntN(9)
		w := window(t, room)
		for range 200 {
			n := r.IntN(60) - 30
			if r.IntN(3) > 0 {
				w.Add(n)
			} else {
				was := len(w.Items())
				went, again := w.Free(n), w.Free(n)
				is(t, say(again, len(w.Items())), say(0, was-went))
				if l := w.Items(); len(l) > 0 && l[0] <= n {
					t.Fatalf("%d stays behind Free(%d)", l[0], n)
				}
			}
			if l := w.Items(); len(l) > room || !rising(l) {
				t.Fatalf("room %d: %v", room, l)
			}
		}
	}
}
