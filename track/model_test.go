package track_test

import (
	"math/rand/v2"
	"slices"
	"strings"
	"testing"

	"synod/api"
	"synod/track"
)

// The chapter once more, in other words: a progress is some numbers, and the messages that were sent and not answered.
type model struct {
	state       string
	match, next int
	open        bool // in Probe: a message is on its way
	room        int
	sent        []int
	snap        int
}

func newModel(next, room int) *model {
	return &model{state: "Probe", next: max(next, 1), room: room}
}

func (m *model) may() bool {
	return m.state == "Probe" && !m.open || m.state == "Replicate" && len(m.sent) < m.room
}

func (m *model) send(last int) {
	if m.state == "Probe" {
		m.open = true
	}
	if m.state == "Replicate" && last >= m.next && len(m.sent) < m.room {
		m.sent = append(m.sent, last)
		m.next = last + 1
	}
}

func (m *model) ack(index int) bool {
	before := m.match
	news := index > before
	if news {
		m.match = index
		if m.next <= index {
			m.next = index + 1
		}
	}
	m.open = false
	m.sent = slices.DeleteFunc(m.sent, func(last int) bool { return last <= index })
	switch {
	case m.state == "Probe" && index >= before:
		m.state, m.sent, m.next = "Replicate", nil, m.match+1
	case m.state == "Snapshot" && m.match >= m.snap:
		m.state, m.next = "Probe", m.match+1
	}
	return news
}

func (m *model) reject(index, hint int) bool {
	switch {
	case m.state == "Replicate" && index > m.match:
		m.state, m.open, m.sent, m.next = "Probe", false, nil, m.match+1
		return true
	case m.state == "Probe" && index+1 == m.next:
		to := index
		if hint < index {
			to = hint + 1
		}
		if to <= m.match {
			to = m.match + 1
		}
		m.next, m.open = to, false
		return true
	}
	return false
}

func (m *model) beat() {
	m.open = false
	switch {
	case m.state == "Replicate" && len(m.sent) == m.room:
		m.sent = m.sent[1:]
	case m.state == "Snapshot":
		m.state, m.next = "Probe", m.match+1
	}
}

func (m *model) whole() string {
	return say(m.state, m.match, m.next, m.may(), m.sent)
}

// player plays calls on a progress and on its model, and holds the answers against each other.
type player struct {
	t     *testing.T
	r     *rand.Rand
	p     *track.Progress
	m     *model
	calls map[string]int
	log   []string
}

func newPlayer(t *testing.T, seed uint64) *player {
	return &player{t: t, r: rand.New(rand.NewPCG(seed, 9)), calls: map[string]int{}}
}

// begin makes a new progress.
func (p *player) begin() {
	next, room := p.r.IntN(12)-1, 1+p.r.IntN(4)
	switch p.r.IntN(12) {
	case 0:
		next = top - p.r.IntN(4) + 1
	case 1:
		room = api.MaxQueue - p.r.IntN(3)
	case 2:
		next = far()[p.r.IntN(len(far()))]
	}
	p.p, p.m = made(p.t, next, room), newModel(next, room)
	p.log = []string{say("New", next, room)}
	p.same("New", "New", whole(p.p), p.m.whole())
}

// same holds an answer against the model's, and counts the kind of answer.
func (p *player) same(call, kind, have, want string) {
	p.t.Helper()
	p.log = append(p.log, call)
	p.calls[kind]++
	if have != want {
		p.t.Fatalf("%s:\n%s is %s; the model has %s", strings.Join(p.log[max(0, len(p.log)-40):], "; "), call, have, want)
	}
}

// enough tells of kinds of answers that the plays had too seldom.
func (p *player) enough(least int, kinds ...string) {
	p.t.Helper()
	for _, k := range kinds {
		if p.calls[k] < least {
			p.t.Errorf("%s: %d times alone", k, p.calls[k])
		}
	}
}

// index is a number near one that the progress knows, mostly.
func (p *player) index() int {
	m := p.m
	near := []int{m.match, m.next - 1, m.next, m.snap}
	if len(m.sent) > 0 {
		near = append(near, m.sent[0], m.sent[p.r.IntN(len(m.sent))])
	}
	n := near[p.r.IntN(len(near))] + p.r.IntN(5) - 2
	switch p.r.IntN(40) {
	case 0:
		n = p.r.IntN(20)
	case 1:
		n = top - p.r.IntN(3)
	}
	return max(0, min(top, n))
}

// step makes a call of any kind, and tells which.
func (p *player) step() string {
	p.t.Helper()
	in := p.m.state
	call := [](func() string){p.sent, p.sent, p.sent, p.acked, p.acked, p.rejected, p.beat, p.snap}[p.r.IntN(8)]()
	p.same("then", say(in, call), whole(p.p), p.m.whole())
	if in != p.m.state {
		p.calls[say(in, "to", p.m.state)]++
	}
	return call
}

func (p *player) sent() string {
	last := p.index()
	if p.r.IntN(2) == 0 {
		last = min(top, p.m.next+p.r.IntN(3))
	}
	p.p.Sent(last)
	p.m.send(last)
	p.log = append(p.log, say("Sent", last))
	return "Sent"
}

func (p *player) acked() string {
	index := p.index()
	ok := p.p.Acked(index)
	p.same(say("Acked", index), say("Acked", ok), say(ok), say(p.m.ack(index)))
	return say("Acked", ok)
}

func (p *player) rejected() string {
	index, hint := p.index(), p.index()
	if p.r.IntN(2) == 0 {
		index = min(top, p.m.next-1)
	}
	ok := p.p.Rejected(index, hint)
	p.same(say("Rejected", index, hint), say("Rejected", ok), say(ok), say(p.m.reject(index, hint)))
	return say("Rejected", ok)
}

func (p *player) beat() string {
	p.p.Beat()
	p.m.beat()
	p.log = append(p.log, "Beat")
	return "Beat"
}

// Few are sent a snapshot, so that the other states are seen for longer.
func (p *player) snap() string {
	if p.r.IntN(4) > 0 {
		return p.sent()
	}
	index := p.index()
	p.p.Snap(index)
	p.m.state, p.m.snap, p.m.sent = "Snapshot", index, nil
	p.log = append(p.log, say("Snap", index))
	return "Snap"
}

func TestP9_3_Model(t *testing.T) {
	p := newPlayer(t, 3)
	for range 4000 {
		p.begin()
		for range 60 {
			p.step()
		}
	}
	for _, state := range []string{"Probe", "Replicate", "Snapshot"} {
		for _, call := range []string{"Sent", "Acked true", "Acked false", "Rejected false", "Beat", "Snap"} {
			p.enough(400, say(state, call))
		}
	}
	p.enough(400, "Probe Rejected true", "Replicate Rejected true", "Probe to Replicate", "Replicate to Probe",
		"Probe to Snapshot", "Replicate to Snapshot", "Snapshot to Probe")
	is(t, p.calls["Snapshot Rejected true"]+p.calls["Probe to Probe"]+p.calls["Snapshot to Replicate"], 0)
}

// Filled up, and emptied, in windows of each room.
func TestP9_4_ModelOfFullWindows(t *testing.T) {
	p := newPlayer(t, 4)
	for room := 1; room <= api.MaxQueue; room++ {
		p.p, p.m = replicating(t, 5, room), newModel(6, room)
		p.m.ack(5)
		for range 400 {
			call := "Sent"
			switch p.r.IntN(8) {
			case 0:
				call = p.beat()
			case 1:
				call = p.acked()
			default:
				last := p.m.next + p.r.IntN(2)
				p.p.Sent(last)
				p.m.send(last)
			}
			p.same("then", say(call, p.m.may()), whole(p.p), p.m.whole())
		}
	}
	p.enough(400, "Sent true", "Sent false", "Beat true", "Acked true true", "Acked false false")
}
