package net_test

import (
	"cmp"
	"fmt"
	"maps"
	"math"
	"math/rand/v2"
	"slices"
	"strings"
	"testing"

	"synod/api"
	"synod/net"
)

// The chapter once more, in other words: what is sent is a letter that never changes; a mail is a letter, a bit that is turned in it, and a place, which is a number between those of its neighbours.

type letter struct {
	from, to int
	text     string
}

type modelMail struct {
	letter letter
	bit    int // -1: none is turned
	place  float64
}

type modelNet struct {
	nodes int
	mails map[int]*modelMail // by their Numbers
	cut   map[[2]int]int     // 1, by the lesser and the greater id
	count int
}

// order are the Numbers by the places of their mails.
func (m *modelNet) order() []int {
	return slices.SortedFunc(maps.Keys(m.mails), func(a, b int) int { return cmp.Compare(m.mails[a].place, m.mails[b].place) })
}

// number is the Number of the i-th mail; 0, if there is none.
func (m *modelNet) number(i int) int {
	if l := m.order(); i >= 0 && i < len(l) {
		return l[i]
	}
	return 0
}

func (m *modelNet) node(id int) bool {
	return slices.Contains([]int{1, 2, 3, 4, 5, 6, 7}[:m.nodes], id)
}

func (m *modelNet) link(a, b int, up bool) bool {
	if !m.node(a) || !m.node(b) || a == b {
		return false
	}
	delete(m.cut, [2]int{min(a, b), max(a, b)})
	if !up {
		m.cut[[2]int{min(a, b), max(a, b)}] = 1
	}
	return true
}

func (m *modelNet) linked(a, b int) bool {
	return m.node(a) && m.node(b) && a != b && m.cut[[2]int{min(a, b), max(a, b)}] == 0
}

func (m *modelNet) put(x modelMail) bool {
	if len(m.mails) == api.MaxMail {
		return false
	}
	for _, other := range m.mails {
		x.place = max(x.place, other.place+1)
	}
	m.count++
	m.mails[m.count] = &x
	return true
}

func (m *modelNet) send(from, to int, text string) bool {
	return m.linked(from, to) && m.put(modelMail{letter{from, to, text}, -1, 0})
}

func (m *modelNet) copy(i int) bool {
	x, ok := m.mails[m.number(i)]
	return ok && m.put(*x)
}

func (m *modelNet) drop(i int) bool {
	number := m.number(i)
	delete(m.mails, number)
	return number > 0
}

func (m *modelNet) spoil(i, bit int) bool {
	x, ok := m.mails[m.number(i)]
	if !ok || x.bit >= 0 || bit < 0 || bit >= 8*len(x.letter.text) {
		return false
	}
	x.bit = bit
	return true
}

func (m *modelNet) move(i, to int) bool {
	l := m.order()
	if m.number(i) == 0 || m.number(to) == 0 {
		return false
	}
	// Just behind the one that stands there, if it goes towards the end, and just ahead of it, if it goes towards the front.
	x, there := m.mails[l[i]], m.mails[l[to]].place
	switch {
	case to == len(l)-1 && i < to:
		x.place = there + 1
	case i < to:
		x.place = (there + m.mails[l[to+1]].place) / 2
	case to == 0 && i > to:
		x.place = there - 1
	case i > to:
		x.place = (there + m.mails[l[to-1]].place) / 2
	}
	return true
}

func (m *modelNet) clear(to int) int {
	was := len(m.mails)
	for number, x := range m.mails {
		if x.letter.to == to {
			delete(m.mails, number)
		}
	}
	return was - len(m.mails)
}

// show is the mail of a Number as text.
func (m *modelNet) show(number int) string {
	x, ok := m.mails[number]
	if !ok {
		return show(net.Mail{})
	}
	text := []byte(x.letter.text)
	if x.bit >= 0 {
		text[x.bit/8] ^= [8]byte{1, 2, 4, 8, 16, 32, 64, 128}[x.bit%8]
	}
	return show(net.Mail{Number: number, From: x.letter.from, To: x.letter.to, Data: text, Spoilt: x.bit >= 0})
}

// told is all that a network tells without a change.
func told(n *net.Net) string {
	links := ""
	for a := range api.MaxNodes + 2 {
		for b := range api.MaxNodes + 2 {
			if n.Linked(a, b) {
				links += fmt.Sprint(a, b, ",")
			}
		}
	}
	return say(n.Len(), links, showAll(n.List()))
}

func (m *modelNet) told() string {
	links := ""
	for a := range api.MaxNodes + 2 {
		for b := range api.MaxNodes + 2 {
			if m.linked(a, b) {
				links += fmt.Sprint(a, b, ",")
			}
		}
	}
	var l []string
	for _, number := range m.order() {
		l = append(l, m.show(number))
	}
	return say(len(m.mails), links, strings.Join(l, " "))
}

// player plays calls on a network and on the model, and holds the answers against each other.
type player struct {
	t     *testing.T
	r     *rand.Rand
	n     *net.Net
	m     *modelNet
	kinds map[string]int
	log   []string
}

// same holds a call's answer against the model's, and counts the kind of answer.
func (p *player) same(call, kind string, have, want any) {
	p.t.Helper()
	p.log = append(p.log, call)
	p.kinds[kind]++
	if say(have) != say(want) {
		p.t.Fatalf("%s: %s is %q; the model has %q", strings.Join(p.log, "; "), call, say(have), say(want))
	}
}

// number is mostly a small one that may be, and at times one of the ends.
func (p *player) number(most int) int {
	switch p.r.IntN(40) {
	case 0:
		return math.MaxInt
	case 1:
		return math.MinInt
	}
	return p.r.IntN(most+3) - 1
}

// text is what is sent.
func (p *player) text() string {
	b := make([]byte, p.r.IntN(4))
	for i := range b {
		b[i] = byte(p.r.IntN(256))
	}
	return string(b)
}

func (p *player) step() {
	i, j := p.number(p.n.Len()), p.number(p.n.Len())
	a, b := p.number(p.m.nodes), p.number(p.m.nodes)
	switch p.r.IntN(14) {
	case 0, 1, 2, 3, 4:
		text := p.text()
		have := p.n.Send(a, b, []byte(text))
		p.same(say("Send", a, b, []byte(text)), say("Send", have), have, p.m.send(a, b, text))
	case 5:
		x, have := p.n.Take(i)
		want := p.m.show(p.m.number(i))
		p.same(say("Take", i), say("Take", have), say(show(x), have), say(want, p.m.drop(i)))
	case 6:
		have := p.n.Drop(i)
		p.same(say("Drop", i), say("Drop", have), have, p.m.drop(i))
	case 7, 8:
		have := p.n.Copy(i)
		p.same(say("Copy", i), say("Copy", have), have, p.m.copy(i))
	case 9, 10:
		bit := p.number(24)
		have := p.n.Spoil(i, bit)
		p.same(say("Spoil", i, bit), say("Spoil", have), have, p.m.spoil(i, bit))
	case 11:
		have := p.n.Move(i, j)
		p.same(say("Move", i, j), say("Move", have), have, p.m.move(i, j))
	case 12:
		up := p.r.IntN(2) == 0
		have := p.n.Link(a, b, up)
		p.same(say("Link", a, b, up), say("Link", up, have), have, p.m.link(a, b, up))
	default:
		if p.r.IntN(5) == 0 {
			have := p.n.Clear(a)
			p.same(say("Clear", a), say("Clear", have > 0), have, p.m.clear(a))
		}
	}
}

func TestP14_3_Model(t *testing.T) {
	p := &player{t: t, r: rand.New(rand.NewPCG(14, 3)), kinds: map[string]int{}}
	for range 400 {
		nodes := 1 + p.r.IntN(api.MaxNodes)
		p.n, p.m, p.log = made(t, nodes), &modelNet{nodes: nodes, mails: map[int]*modelMail{}, cut: map[[2]int]int{}}, nil
		for range 120 {
			p.step()
			p.same("look", "look", told(p.n), p.m.told())
		}
	}
	for _, k := range []string{"Send", "Take", "Drop", "Copy", "Spoil", "Move", "Link true", "Link false", "Clear"} {
		for _, ok := range []bool{true, false} {
			if p.kinds[say(k, ok)] < 100 {
				t.Errorf("%s is %t %d times alone", k, ok, p.kinds[say(k, ok)])
			}
		}
	}
}

// The same with a row that is full, or nearly so, looked at now and then.
func TestP14_2_ModelWhereFull(t *testing.T) {
	p := &player{t: t, r: rand.New(rand.NewPCG(14, 2)), kinds: map[string]int{}}
	p.n, p.m = made(t, 3), &modelNet{nodes: 3, mails: map[int]*modelMail{}, cut: map[[2]int]int{}}
	for range api.MaxMail {
		send(t, p.n, 1, 2, "ab")
		p.m.count++
		p.m.mails[p.m.count] = &modelMail{letter{1, 2, "ab"}, -1, float64(p.m.count)}
	}
	for range 6 {
		for range 40 {
			i, j := p.r.IntN(p.n.Len()), p.r.IntN(p.n.Len())
			switch p.r.IntN(4) {
			case 0:
				have := p.n.Send(2, 3, nil)
				p.same("Send", say("put", have), have, p.m.send(2, 3, ""))
			case 1:
				have := p.n.Copy(i)
				p.same(say("Copy", i), say("put", have), have, p.m.copy(i))
			case 2:
				p.same(say("Drop", i), "Drop", p.n.Drop(i), p.m.drop(i))
			default:
				p.same(say("Move", i, j), "Move", p.n.Move(i, j), p.m.move(i, j))
			}
		}
		p.same("look", "look", told(p.n), p.m.told())
	}
	if p.kinds["put true"] < 20 || p.kinds["put false"] < 20 {
		t.Errorf("%v", p.kinds)
	}
}
