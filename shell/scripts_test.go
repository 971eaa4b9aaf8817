package shell_test

import (
	"fmt"
	"math/rand/v2"
	"strings"
	"testing"

	"synod/api"
	"synod/core"
	"synod/node"
	"synod/text"
	"synod/world"
)

// author writes a script of which much comes: it plays each line at once, and looks at what there is.
type author struct {
	t     *testing.T
	r     *rand.Rand
	o     world.Opts
	w     *world.World
	lines []string
	keys  [3]key
	// How often, of 1000: mail is harmed; something befalls a node; there are calm rounds.
	lossy, rough, rest int
	quick              int // who stands early
}

// key is one that is in use.
type key struct{ name, called int }

// newAuthor begins a script of any options.
func newAuthor(t *testing.T, seed uint64) *author {
	t.Helper()
	r := rand.New(rand.NewPCG(seed, 18))
	n := func(most int) int { return 1 + r.IntN(most) }
	return begun(t, r, world.Opts{
		Nodes: []int{1, 2, 3, 3, 3, 4, 5, 7}[r.IntN(8)], Clients: []int{2, 3, 5, 16}[r.IntN(4)],
		Node: node.Opts{
			Core:  core.Opts{Election: 3 + n(6), Beat: n(2), Batch: n(6), Window: n(4), Reads: n(4), Pending: 3 + n(9)},
			Every: r.IntN(8), Keep: r.IntN(4), Segment: []int{64, 200, 4096}[r.IntN(3)],
			Inbox: 3 + n(20), Ticks: n(4), Calls: n(4), Jobs: n(4), Applies: n(4), Out: 3 + n(20),
		},
	})
}

// begun begins a script of these options.
func begun(t *testing.T, r *rand.Rand, o world.Opts) *author {
	t.Helper()
	w, e := world.New(o)
	if e != api.OK {
		t.Fatalf("%v: %d", o, e)
	}
	return &author{
		t: t, r: r, o: o, w: w, lines: []string{text.FormatOpts(o)}, keys: [3]key{{name: 1}, {name: 2}, {name: 3}},
		lossy: []int{0, 10, 30, 60}[r.IntN(4)], rough: []int{0, 5, 10, 20}[r.IntN(4)], rest: []int{5, 10, 30}[r.IntN(3)],
		quick: 1 + r.IntN(o.Nodes),
	}
}

// script is the text so far.
func (p *author) script() string { return lines(p.lines...) }

// say writes a line, and plays it.
func (p *author) say(form string, l ...any) world.Told {
	p.t.Helper()
	line := fmt.Sprintf(form, l...)
	a, e := text.ParseAct(line)
	if e != api.OK {
		p.t.Fatalf("%s: %d", line, e)
	}
	p.lines = append(p.lines, line)
	return p.w.Do(a)
}

// goOn writes so many lines more.
func (p *author) goOn(n int) {
	for range n {
		p.next()
	}
}

func (p *author) node() int { return 1 + p.r.IntN(p.o.Nodes) }

// next writes one line more.
func (p *author) next() {
	mails := len(p.w.Mail())
	odds := p.r.IntN(1000)
	for _, x := range []struct {
		often int
		may   bool
		say   func()
	}{
		{3, true, p.odd},
		{p.rough, true, p.blow},
		{25, true, p.rise},
		{p.rest, true, func() { p.say("calm %d %d", p.quick, 1+p.r.IntN(4)) }},
		{p.lossy, mails > 0, p.harm},
		{p.lossy / 6, true, p.part},
		{90, true, p.call},
		{100, true, p.tick},
		{200, mails > 0, func() { p.say("deliver %d", p.r.IntN(min(mails, 1+p.lossy))) }},
	} {
		if !x.may {
			continue
		}
		if odds < x.often {
			x.say()
			return
		}
		odds -= x.often
	}
	p.pick()
}

// odd is an act that does nothing, mostly.
func (p *author) odd() {
	p.say("%s", []string{
		"tick 0 5", "deliver -1", "drop 5000", "link 1 1", "get 99 1 a", "calm 1 0", "spoil 0 -1", "put 1 1 \"\" x", "stop 8", "give 17",
	}[p.r.IntN(10)])
}

// blow befalls a node.
func (p *author) blow() {
	switch id := p.node(); p.r.IntN(5) {
	case 0, 1:
		p.say("crash %d %d", id, []int{0, p.r.IntN(60), 9999}[p.r.IntN(3)])
	case 2:
		p.say("stop %d", id)
	case 3:
		p.say("arm %d %d", id, p.r.IntN(20))
	default:
		p.quick = id
	}
}

// rise lets a node that isn't up be started.
func (p *author) rise() {
	for id := range p.o.Nodes {
		if _, up := p.w.View(id + 1); !up {
			p.say("crash %d %d", id+1, p.r.IntN(60))
			p.say("start %d %d", id+1, p.r.IntN(5))
			return
		}
	}
}

// harm is what a network does to mail.
func (p *author) harm() {
	mail := p.w.Mail()
	i := p.r.IntN(len(mail))
	switch p.r.IntN(4) {
	case 0:
		p.say("drop %d", i)
	case 1:
		p.say("copy %d", i)
	case 2:
		p.say("spoil %d %d", i, p.r.IntN(8*len(mail[i].Data)))
	default:
		p.say("move %d %d", i, p.r.IntN(len(mail)))
	}
}

// part cuts links, or mends them.
func (p *author) part() {
	if p.r.IntN(2) > 0 {
		p.say("link %d %d", p.node(), p.node())
		return
	}
	p.quick = p.node()
	p.say("cut %d %d", p.node(), p.node())
}

func (p *author) tick() {
	id := p.node()
	if id == p.quick || p.r.IntN(50) == 0 {
		p.say("tick %d %d", id, p.r.IntN(3))
	} else if p.r.IntN(2) == 0 {
		p.say("tick %d %d", id, 8*p.o.Node.Core.Election)
	} else {
		p.say("tick %d 0", p.quick)
	}
}

// pick is mostly one that has something to do.
func (p *author) pick() {
	names := strings.Fields("notice work inbox tick call write sync apply send")
	var may []string
	for id := 1; id <= p.o.Nodes; id++ {
		v, up := p.w.View(id)
		for i, n := range []int{v.Notices, 1, v.Inbox, v.Ticks, v.Calls, v.Jobs, v.Held, v.Applies, v.Out} {
			if n > 0 && up {
				may = append(may, fmt.Sprint("pick ", id, " ", names[i]))
			}
		}
	}
	if len(may) == 0 {
		p.tick()
		return
	}
	p.say("%s", may[p.r.IntN(len(may))])
}

// call is what a client does: of no key MaxOps operations are called.
func (p *author) call() {
	client, id, value := 1+p.r.IntN(p.o.Clients), p.w.Leader(), fmt.Sprint("v", p.r.IntN(4))
	if id == 0 || p.r.IntN(4) == 0 {
		id = p.node()
	}
	at := &p.keys[p.r.IntN(len(p.keys))]
	if at.called == api.MaxOps-1 {
		*at = key{name: at.name + len(p.keys)}
	}
	var told world.Told
	switch p.r.IntN(8) {
	case 0, 1:
		p.say("again %d %d", client, id)
		return
	case 2:
		p.say("give %d", client)
		return
	case 3, 4:
		told = p.say("put %d %d k%d %s", client, id, at.name, value)
	case 5:
		told = p.say("delete %d %d k%d", client, id, at.name)
	case 6:
		told = p.say("swap %d %d k%d v%d %s", client, id, at.name, p.r.IntN(4), value)
	default:
		told = p.say("get %d %d k%d", client, id, at.name)
	}
	if told.Err == api.OK {
		at.called++
	}
}
