package kv_test

import (
	"fmt"
	"math/rand/v2"
	"slices"
	"strings"
	"testing"

	"synod/api"
	"synod/codec"
	"synod/kv"
)

// The chapter once more, in other words: a model has no keys and no sessions, only a list of the commands that were done,
// with what they got. All else is looked up there, from the last one back.
type model struct{ past []deed }

type deed struct {
	c api.Command
	r api.Reply
}

func (m *model) last(client int) (deed, bool) {
	for _, d := range slices.Backward(m.past) {
		if d.c.Client == client {
			return d, true
		}
	}
	return deed{}, false
}

func (m *model) value(key string) (string, bool) {
	for _, d := range slices.Backward(m.past) {
		if d.c.Key == key && d.r.Code == api.RDone {
			return d.c.Value, d.c.Op != api.OpDelete
		}
	}
	return "", false
}

func (m *model) keys() []string {
	var l []string
	for _, d := range m.past {
		if _, ok := m.value(d.c.Key); ok {
			l = append(l, d.c.Key)
		}
	}
	slices.Sort(l)
	return slices.Compact(l)
}

func (m *model) clients() []int {
	var l []int
	for _, d := range m.past {
		l = append(l, d.c.Client)
	}
	slices.Sort(l)
	return slices.Compact(l)
}

// fate is what a command gets, and whether it is done to get it.
func (m *model) fate(c api.Command) (api.Reply, bool) {
	if d, ok := m.last(c.Client); ok && d.c.Seq >= c.Seq {
		if d.c.Seq == c.Seq {
			return d.r, false
		}
		return api.Reply{Code: api.ROld}, false
	} else if !ok && len(m.clients()) == api.MaxSession {
		return api.Reply{Code: api.RFull}, false
	}
	value, there := m.value(c.Key)
	switch {
	case c.Op == api.OpPut && !there && len(m.keys()) == api.MaxPairs:
		return api.Reply{Code: api.RFull}, true
	case c.Op != api.OpPut && !there:
		return api.Reply{Code: api.RNone}, true
	case c.Op == api.OpSwap && value != c.Old:
		return api.Reply{Code: api.ROther, Value: value}, true
	}
	return api.Reply{Code: api.RDone}, true
}

func (m *model) do(c api.Command) (api.Reply, api.Errno) {
	if e := (codec.Commands{}).Check(c); e != api.OK {
		return api.Reply{}, e
	}
	r, isNew := m.fate(c)
	if isNew {
		m.past = append(m.past, deed{c, r})
	}
	return r, api.OK
}

// all is what the store's all is to be.
func (m *model) all() string {
	keys, clients := m.keys(), m.clients()
	var each []string
	parts := []any{len(keys)}
	for _, k := range keys {
		v, _ := m.value(k)
		each, parts = append(each, k+"="+v), append(parts, k, v)
	}
	told := strings.Join(each, " ") + ";"
	parts = append(parts, len(clients))
	for _, c := range clients {
		d, _ := m.last(c)
		told += say("", c, d.c.Seq, d.r.Code) + d.r.Value + ","
		parts = append(parts, c, d.c.Seq, d.r.Code, d.r.Value)
	}
	return told + fmt.Sprintf(" %x", text(parts...))
}

// player plays commands on a store and on a model, and holds the answers against each other.
type player struct {
	t     *testing.T
	r     *rand.Rand
	s     *kv.Store
	m     *model
	n     int   // how many keys, and clients, it takes commands from
	seqs  []int // the greatest of each client's
	calls map[string]int
}

func newPlayer(t *testing.T, r *rand.Rand) *player {
	return &player{t: t, r: r, s: kv.New(), m: &model{}, n: 4, seqs: make([]int, 200), calls: map[string]int{}}
}

func (p *player) key() string {
	if p.n > api.MaxSession {
		return fmt.Sprint("k", p.r.IntN(p.n))
	}
	return []string{"a", "b", "ab", "\xff", "\x00"}[p.r.IntN(5)]
}

// value is one of few, so that swaps find their Old at times.
func (p *player) value() string { return []string{"", "x", "y"}[p.r.IntN(3)] }

// command is one whose Seq is the next one of its client, or one that was there, or one further on.
func (p *player) command() api.Command {
	client := p.r.IntN(min(p.n, len(p.seqs)))
	seq := p.seqs[client] + 1
	switch p.r.IntN(6) {
	case 0:
		seq--
	case 1:
		seq -= p.r.IntN(4)
	case 2:
		seq += p.r.IntN(3)
	}
	seq = max(1, seq)
	p.seqs[client] = max(p.seqs[client], seq)
	c := put(client+1, seq, p.key(), p.value())
	switch p.r.IntN(5) {
	case 0, 1:
		c.Op, c.Old = api.OpSwap, p.value()
	case 2:
		c.Op, c.Value = api.OpDelete, ""
	}
	return c
}

// wrong is a command with something in it that may not be.
func (p *player) wrong() api.Command {
	c := p.command()
	switch p.r.IntN(6) {
	case 0:
		c.Op = p.r.IntN(8) - 2
	case 1:
		c.Client = -p.r.IntN(2)
	case 2:
		c.Seq = []int{0, -1, api.MaxIndex + 1}[p.r.IntN(3)]
	case 3:
		c.Key = []string{"", long(65)}[p.r.IntN(2)]
	case 4:
		c.Value = []string{"x", long(1025)}[p.r.IntN(2)]
	case 5:
		c.Old = []string{"x", long(1025)}[p.r.IntN(2)]
	}
	return c
}

// step plays a command, and tells what it was and got.
func (p *player) step() (api.Command, api.Reply) {
	c := p.command()
	if p.r.IntN(15) == 0 {
		c = p.wrong()
	}
	have, e := p.s.Do(c)
	want, wanted := p.m.do(c)
	if have != want || e != wanted {
		p.t.Fatalf("%v is %v, %d; the model has %v, %d", c, have, e, want, wanted)
	}
	if e != api.OK {
		p.calls[say("error", int(e))]++
	}
	p.calls[say(c.Op, have.Code)]++
	return c, have
}

// alike holds all that the store tells against the model.
func (p *player) alike() {
	p.t.Helper()
	if have, want := all(p.s), p.m.all(); have != want {
		p.t.Fatalf("have %s; the model has %s", have, want)
	}
}

func (p *player) enough(least int, l ...string) {
	p.t.Helper()
	for _, k := range l {
		if p.calls[k] < least {
			p.t.Errorf("%s: %d times alone", k, p.calls[k])
		}
	}
}

// kinds are an operation's replies.
func kinds(op int, codes ...int) []string {
	var l []string
	for _, c := range codes {
		l = append(l, say(op, c))
	}
	return l
}

func TestP11_2_Model(t *testing.T) {
	calls := map[string]int{}
	r := rand.New(rand.NewPCG(11, 2))
	for range 300 {
		p := newPlayer(t, r)
		p.calls = calls
		for range 60 {
			p.step()
			p.alike()
		}
	}
	p := &player{t: t, calls: calls}
	for _, op := range []int{api.OpPut, api.OpDelete, api.OpSwap} {
		p.enough(50, kinds(op, api.RDone, api.RNone, api.ROther, api.ROld)...)
	}
	for e := range wrongs() {
		p.enough(50, say("error", int(e)))
	}
}

// Many clients and many keys, so that room is wanting.
func TestP11_2_ModelOfFullStores(t *testing.T) {
	calls := map[string]int{}
	for seed := range uint64(3) {
		p := newPlayer(t, rand.New(rand.NewPCG(seed, 112)))
		p.n, p.calls = 200, calls
		for i := range 900 {
			p.step()
			if i%50 == 0 {
				p.alike()
			}
		}
		p.alike()
		is(t, len(p.s.Sessions()), api.MaxSession)
	}
	p := &player{t: t, calls: calls}
	for _, op := range []int{api.OpPut, api.OpDelete, api.OpSwap} {
		p.enough(20, kinds(op, api.RFull)...)
	}
}
