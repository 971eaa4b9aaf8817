package world_test

import (
	"fmt"
	"math/rand/v2"
	"testing"

	"synod/core"
	"synod/node"
	"synod/world"
)

// play is a world in which anything happens, by a seed.
type play struct {
	t    *testing.T
	r    *rand.Rand
	o    world.Opts
	w    *world.World
	acts []world.Act
	// How often, of 1000: mail is harmed; something befalls a node; an act is a wrong one; there are calm rounds.
	lossy, rough, wrong, rest int
	quick                     int // who stands early
}

// newPlay makes a world of any options.
func newPlay(t *testing.T, seed uint64) *play {
	t.Helper()
	p := &play{t: t, r: rand.New(rand.NewPCG(seed, 15))}
	p.o = someOpts(p.r)
	p.w = with(t, p.o)
	p.lossy = []int{0, 10, 30, 60}[p.r.IntN(4)]
	p.rough = []int{0, 5, 10, 20}[p.r.IntN(4)]
	p.wrong = []int{0, 5, 30}[p.r.IntN(3)]
	p.rest = []int{0, 5, 10, 30}[p.r.IntN(4)]
	p.quick = 1 + p.r.IntN(p.o.Nodes)
	return p
}

// someOpts are any options that let something happen soon.
func someOpts(r *rand.Rand) world.Opts {
	n := func(most int) int { return 1 + r.IntN(most) }
	return world.Opts{
		Nodes: []int{1, 2, 3, 3, 3, 4, 5, 7}[r.IntN(8)], Clients: []int{1, 2, 3, 16}[r.IntN(4)],
		Node: node.Opts{
			Core:  core.Opts{Election: 3 + n(4), Beat: n(2), Batch: n(5), Window: n(3), Reads: n(4), Pending: 3 + n(9)},
			Every: r.IntN(8), Keep: r.IntN(4), Segment: []int{64, 200, 4096}[r.IntN(3)],
			Inbox: n(20), Ticks: n(4), Calls: n(4), Jobs: n(4), Applies: n(4), Out: 1 + n(20),
		},
	}
}

// do does an act, and goes on with the list of them.
func (p *play) do(a world.Act) world.Told {
	p.acts = append(p.acts, a)
	return p.w.Do(a)
}

// node is any node; mostly one that is there.
func (p *play) node() int {
	if p.r.IntN(1000) < p.wrong {
		return append(far(), 0, 8)[p.r.IntN(len(far())+2)]
	}
	return 1 + p.r.IntN(p.o.Nodes)
}

// target is a node that a client calls: often the one that leads.
func (p *play) target() int {
	if id := p.w.Leader(); id > 0 && p.r.IntN(4) > 0 {
		return id
	}
	return p.node()
}

// next is the next act.
func (p *play) next() world.Act {
	r := p.r
	mails := len(p.w.Mail())
	odds := r.IntN(1000)
	for _, x := range []struct {
		often int
		may   bool
		act   func() world.Act
	}{
		{p.wrong, true, p.odd},
		{p.rough, true, p.blow},
		{20, p.someDown(), p.rise},
		{p.rest, true, func() world.Act { return calm(p.node(), 1+r.IntN(3)) }},
		{p.lossy, mails > 0, p.harm},
		{p.lossy / 6, true, p.part},
		{80, true, p.call},
		{100, true, p.tick},
		{150, mails > 0, func() world.Act { return deliver(r.IntN(min(mails, 1+p.lossy))) }},
	} {
		if x.may && odds < x.often {
			return x.act()
		}
		if x.may {
			odds -= x.often
		}
	}
	return p.pick()
}

// pick is mostly one that has something to do.
func (p *play) pick() world.Act {
	var l []world.Act
	for id := 1; id <= p.o.Nodes; id++ {
		v, up := p.w.View(id)
		for i, n := range []int{v.Notices, 0, v.Inbox, v.Ticks, v.Calls, v.Jobs, v.Held, v.Applies, v.Out} {
			if n > 0 && up {
				l = append(l, pick(id, i+1))
			}
		}
	}
	switch k := p.r.IntN(30); {
	case k == 0:
		return pick(p.node(), 1+p.r.IntN(9))
	case k < 8:
		return pick(p.node(), node.PWork)
	case len(l) == 0:
		return p.tick()
	}
	return l[p.r.IntN(len(l))]
}

// part cuts links, or mends them; at times another one stands early then.
func (p *play) part() world.Act {
	if p.r.IntN(2) > 0 {
		return link(p.node(), p.node())
	}
	p.quick = 1 + p.r.IntN(p.o.Nodes)
	if id := p.w.Leader(); id > 0 && p.r.IntN(2) == 0 {
		return cut(id, p.node())
	}
	return cut(p.node(), p.node())
}

// someDown tells whether a node isn't up.
func (p *play) someDown() bool {
	for id := 1; id <= p.o.Nodes; id++ {
		if _, up := p.w.View(id); !up {
			return true
		}
	}
	return false
}

// rise starts a node that isn't up, or lets its disk be up for it.
func (p *play) rise() world.Act {
	for id := 1; id <= p.o.Nodes; id++ {
		if _, up := p.w.View(id); !up {
			return []world.Act{crash(id, p.r.IntN(60)), start(id, p.r.IntN(5))}[p.r.IntN(2)]
		}
	}
	return start(p.node(), 0)
}

func (p *play) tick() world.Act {
	id := p.node()
	if p.r.IntN(2) == 0 {
		id = p.quick
	}
	if id == p.quick || p.r.IntN(50) == 0 {
		return tick(id, p.r.IntN(3))
	}
	return tick(id, 8*p.o.Node.Core.Election)
}

// harm is what a network does to mail.
func (p *play) harm() world.Act {
	i := p.r.IntN(len(p.w.Mail()))
	switch p.r.IntN(4) {
	case 0:
		return drop(i)
	case 1:
		return double(i)
	case 2:
		return spoil(i, p.r.IntN(8*len(p.w.Mail()[i].Data)))
	}
	return move(i, p.r.IntN(len(p.w.Mail())))
}

// blow is what befalls a node.
func (p *play) blow() world.Act {
	id := p.node()
	switch p.r.IntN(6) {
	case 0, 1:
		return crash(id, []int{0, p.r.IntN(60), 9999}[p.r.IntN(3)])
	case 2:
		return start(id, p.r.IntN(5))
	case 3:
		return stop(id)
	}
	return arm(id, p.r.IntN(20))
}

// call is what a client does.
func (p *play) call() world.Act {
	r, client, id := p.r, 1+p.r.IntN(p.o.Clients), p.target()
	key, value := string("abc"[r.IntN(3)]), fmt.Sprint("v", r.IntN(4))
	if r.IntN(100) == 0 {
		key = ""
	}
	switch r.IntN(16) {
	case 0, 1, 2:
		return get(client, id, key)
	case 3, 4, 5:
		return put(client, id, key, value)
	case 6:
		return remove(client, id, key)
	case 7:
		return swap(client, id, key, fmt.Sprint("v", r.IntN(4)), value)
	case 8:
		return give(client)
	}
	return again(client, id)
}

// odd is an act of any kind, of any numbers.
func (p *play) odd() world.Act {
	r := p.r
	number := func() int {
		if r.IntN(4) == 0 {
			return append(far(), 199, 200, 201)[r.IntN(len(far())+3)]
		}
		return r.IntN(9) - 1
	}
	text := func() string {
		return []string{"", "a", "b", string(make([]byte, 64)), string(make([]byte, 65)), string(make([]byte, 1025))}[r.IntN(6)]
	}
	a := world.Act{Kind: r.IntN(19) - 1, Node: number(), Client: number(), N: number(), M: number(), Op: number(), Key: text(), Value: text(), Old: text()}
	if a.Kind == world.WCalm && a.N > 20 && a.N <= 200 {
		a.N -= 190
	}
	return a
}
