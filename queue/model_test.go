package queue_test

import (
	"math"
	"math/rand/v2"
	"strings"
	"testing"

	"synod/api"
	"synod/queue"
)

// The chapter once more, in other words: a queue is a text, with a letter for each thing.

type modelQueue struct {
	room int
	text string
}

func (m *modelQueue) put(x string) bool {
	if len(m.text) == m.room {
		return false
	}
	m.text += x
	return true
}

func (m *modelQueue) take() (string, bool) {
	if m.text == "" {
		return "", false
	}
	x := m.text[:1]
	m.text = m.text[1:]
	return x, true
}

func modelMove(from, to *modelQueue, most int) int {
	n := 0
	for ; n < most && from.text != "" && len(to.text) < to.room; n++ {
		x, _ := from.take()
		to.put(x)
	}
	return n
}

// player plays calls on the program's things and on those of the model, and holds the answers against each other.
type player struct {
	t     *testing.T
	r     *rand.Rand
	calls map[string]int
	log   []string
}

func newPlayer(t *testing.T, seed uint64) *player {
	return &player{t, rand.New(rand.NewPCG(seed, 7)), map[string]int{}, nil}
}

// same holds a call's answer against the model's, and counts the kind of answer.
func (p *player) same(call, kind, have, want string) {
	p.t.Helper()
	p.log = append(p.log, call)
	p.calls[kind]++
	if have != want {
		p.t.Fatalf("%s: %s is %s; the model has %s", strings.Join(p.log, "; "), call, have, want)
	}
}

// enough tells of kinds of answers that the plays had too seldom.
func (p *player) enough(least int, kinds ...string) {
	p.t.Helper()
	for _, k := range kinds {
		if p.calls[k] < least {
			p.t.Errorf("%s: %d times alone", k, p.calls[k])
		}
	}
}

// letter is a thing.
func (p *player) letter() string { return string(rune('a' + p.r.IntN(26))) }

// number is one of a few small ones, and at times one of the ends.
func (p *player) number(most int) int {
	switch p.r.IntN(30) {
	case 0:
		return math.MaxInt
	case 1:
		return math.MinInt
	}
	return p.r.IntN(most+5) - 3
}

// told is all that a queue tells.
func told(q *queue.Queue[string]) string {
	each := ""
	for i, x := range q.Each() {
		if i != len(each) {
			return "Each is out of step"
		}
		each += x
	}
	x, ok := q.Peek()
	return say(q.Len(), q.Room(), strings.Join(q.Items(), ""), each, x, ok)
}

func (m *modelQueue) told() string {
	first := ""
	if m.text != "" {
		first = m.text[:1]
	}
	return say(len(m.text), m.room-len(m.text), m.text, m.text, first, m.text != "")
}

func (p *player) queueStep(q []*queue.Queue[string], m []*modelQueue) {
	k := p.r.IntN(len(q))
	switch n := p.r.IntN(20); {
	case n < 9:
		x := p.letter()
		have := q[k].Put(x)
		p.same(say("Put", k, x), say("Put", have), say(have), say(m[k].put(x)))
	case n < 15:
		x, ok := q[k].Take()
		p.same(say("Take", k), say("Take", ok), say(x, ok), say(m[k].take()))
	case n < 19:
		to := (k + 1 + p.r.IntN(len(q)-1)) % len(q)
		most := p.number(m[k].room)
		have := queue.Move(q[k], q[to], most)
		p.same(say("Move", k, to, most), say("Move", have > 0), say(have), say(modelMove(m[k], m[to], most)))
	default:
		have, want := q[k].Clear(), len(m[k].text)
		m[k].text = ""
		p.same(say("Clear", k), say("Clear", have > 0), say(have), say(want))
	}
	for k := range q {
		p.same("look", "look", told(q[k]), m[k].told())
	}
}

func TestP7_1_Model(t *testing.T) {
	p := newPlayer(t, 1)
	for range 300 {
		var q []*queue.Queue[string]
		var m []*modelQueue
		for range 2 + p.r.IntN(2) {
			room := 1 + p.r.IntN(5)
			if p.r.IntN(4) == 0 {
				room = api.MaxQueue - p.r.IntN(2)
			}
			q, m = append(q, made[string](t, room)), append(m, &modelQueue{room: room})
		}
		p.log = nil
		for range 150 {
			p.queueStep(q, m)
		}
	}
	p.enough(300, "Put true", "Put false", "Take true", "Take false", "Move true", "Move false", "Clear true", "Clear false")
}

// A window of the model is which numbers are in it, of all that may be.
type modelWindow struct {
	room int
	in   map[int]int
}

func (m *modelWindow) add(n int) bool {
	for x := range m.in {
		if x >= n {
			return false
		}
	}
	if len(m.in) >= m.room {
		return false
	}
	m.in[n] = 1
	return true
}

func (m *modelWindow) free(upTo int) int {
	n := len(m.in)
	for x := range m.in {
		if x <= upTo {
			delete(m.in, x)
		}
	}
	return n - len(m.in)
}

// looks is all that the numbers of a window are asked for: whether those of Items are in it, and rise.
func (p *player) looks(w *queue.Window, m *modelWindow) {
	l := w.Items()
	there := 0
	for _, n := range l {
		there += m.in[n]
	}
	p.same("look", "look", say(len(l), there, rising(l), w.Full()), say(len(m.in), len(m.in), true, len(m.in) == m.room))
}

func TestP7_3_Model(t *testing.T) {
	p := newPlayer(t, 3)
	for range 500 {
		m := &modelWindow{1 + p.r.IntN(6), map[int]int{}}
		w := window(t, m.room)
		p.log = nil
		base := 0
		for range 150 {
			n := base + p.number(12)
			if p.r.IntN(9) == 0 {
				n = p.number(12)
			}
			switch k := p.r.IntN(20); {
			case k < 12:
				have := w.Add(n)
				p.same(say("Add", n), say("Add", have), say(have), say(m.add(n)))
			case k < 19:
				have := w.Free(n)
				p.same(say("Free", n), say("Free", min(have, 3)), say(have), say(m.free(n)))
			default:
				w.Clear()
				clear(m.in)
				p.same("Clear", "Clear", "", "")
			}
			base = p.r.IntN(3) + base
			if p.r.IntN(30) == 0 {
				base = 0
			}
			p.looks(w, m)
		}
	}
	p.enough(300, "Add true", "Add false", "Free 0", "Free 1", "Free 2", "Free 3", "Clear")
}

// Lanes of the model are texts in the order in which they are served: the one that is served goes to the end.
type modelLanes struct {
	room  int
	lanes []int
	texts map[int]modelQueue
}

func newModelLanes(lanes, room int) *modelLanes {
	m := &modelLanes{room, nil, map[int]modelQueue{}}
	for i := range lanes {
		m.lanes = append(m.lanes, i)
		m.texts[i] = modelQueue{room: room}
	}
	return m
}

func (m *modelLanes) put(lane int, x string) bool {
	q, ok := m.texts[lane]
	ok = ok && q.put(x)
	if ok {
		m.texts[lane] = q
	}
	return ok
}

func (m *modelLanes) take() (int, string, bool) {
	for i, lane := range m.lanes {
		q := m.texts[lane]
		if x, ok := q.take(); ok {
			m.texts[lane] = q
			m.lanes = append(m.lanes[i+1:len(m.lanes):len(m.lanes)], m.lanes[:i+1]...)
			return lane, x, true
		}
	}
	return 0, "", false
}

func (m *modelLanes) told() string {
	all, n := "", 0
	for lane := range m.lanes {
		all += m.texts[lane].text + "/"
		n += len(m.texts[lane].text)
	}
	return say(n, all)
}

func toldLanes(l *queue.Lanes[string], lanes int) string {
	all := ""
	for lane := range lanes {
		all += strings.Join(l.Items(lane), "") + "/"
	}
	return say(l.Len(), all)
}

func TestP7_4_Model(t *testing.T) {
	p := newPlayer(t, 4)
	for range 500 {
		n, room := 1+p.r.IntN(6), 1+p.r.IntN(4)
		if p.r.IntN(9) == 0 {
			n = api.MaxQueue
		}
		l, m := lanes[string](t, n, room), newModelLanes(n, room)
		p.log = nil
		often := 3 + p.r.IntN(6)
		for range 100 {
			if p.r.IntN(12) < often {
				lane, x := p.number(n), p.letter()
				have := l.Put(lane, x)
				p.same(say("Put", lane, x), say("Put", have, lane >= 0 && lane < n), say(have), say(m.put(lane, x)))
			} else {
				lane, x, ok := l.Take()
				p.same("Take", say("Take", ok, lane > 0), say(lane, x, ok), say(m.take()))
			}
			p.same("look", "look", toldLanes(l, n), m.told())
		}
	}
	p.enough(300, "Put true true", "Put false true", "Put false false", "Take true true", "Take true false", "Take false false")
}
