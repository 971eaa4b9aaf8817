package lin_test

import (
	"fmt"
	"math/rand/v2"
	"testing"

	"synod/api"
	"synod/core"
	"synod/lin"
	"synod/node"
	"synod/world"
)

// clash is a world whose clients call at the same few keys, as far as these may be judged.
type clash struct {
	r     *rand.Rand
	w     *world.World
	calls int
}

const nodes, clients = 3, 4

func newClash(t *testing.T, seed uint64) *clash {
	t.Helper()
	w, e := world.New(world.Opts{Nodes: nodes, Clients: clients, Node: node.Opts{
		Core:  core.Opts{Election: 4, Beat: 1, Batch: 4, Window: 2, Reads: 4, Pending: 8},
		Every: 5, Keep: 1, Segment: 200, Inbox: 12, Ticks: 4, Calls: 4, Jobs: 4, Applies: 4, Out: 12,
	}})
	if e != api.OK {
		t.Fatal(e)
	}
	return &clash{r: rand.New(rand.NewPCG(seed, 16)), w: w}
}

// next is the next act: mostly a round, with whichever node early; calls; now and then something that harms.
func (c *clash) next() world.Act {
	r, w := c.r, c.w
	id := 1 + r.IntN(nodes)
	mails := len(w.Mail())
	switch r.IntN(12) {
	case 0:
		return world.Act{Kind: world.WCrash, Node: id, N: r.IntN(60)}
	case 1, 2:
		return world.Act{Kind: world.WStart, Node: id, N: r.IntN(4)}
	case 3:
		return world.Act{Kind: world.WLink, Node: id, N: 1 + r.IntN(nodes), M: r.IntN(3)}
	case 4:
		return world.Act{Kind: []int{world.WDrop, world.WCopy, world.WDeliver}[r.IntN(3)], N: r.IntN(mails + 1)}
	case 5:
		return world.Act{Kind: world.WPick, Node: id, N: 1 + r.IntN(9)}
	case 6, 7, 8, 9:
		return c.call(id)
	}
	return world.Act{Kind: world.WCalm, Node: id, N: 1 + r.IntN(4)}
}

// call is what a client does, mostly at the one that leads.
func (c *clash) call(id int) world.Act {
	r := c.r
	if leader := c.w.Leader(); leader > 0 && r.IntN(4) > 0 {
		id = leader
	}
	a := world.Act{Kind: world.WAgain, Node: id, Client: 1 + r.IntN(clients)}
	switch r.IntN(6) {
	case 0:
		a.Kind = world.WGive
	case 1, 2, 3:
		if c.calls == 3*api.MaxOps {
			return a
		}
		a.Kind, a.Op, a.Key = world.WCall, 1+r.IntN(4), string("abc"[c.calls/api.MaxOps])
		if a.Op == api.OpPut || a.Op == api.OpSwap {
			a.Value = fmt.Sprint("v", r.IntN(3))
		}
		if a.Op == api.OpSwap {
			a.Old = fmt.Sprint("v", r.IntN(3))
		}
	}
	return a
}

// P0.11: what the clients of a world were told is judged true; a read that tells what nobody put isn't.
func TestP16_5_HistoriesOfWorlds(t *testing.T) {
	seen := map[string]int{}
	for seed := range uint64(500) {
		c := newClash(t, seed)
		for range 300 {
			if told := c.w.Do(c.next()); told.Err != api.OK {
				continue
			}
			c.calls = len(c.w.History())
		}
		h := c.w.History()
		ok, e := lin.Check(h)
		if !ok || e != api.OK {
			t.Fatalf("%d: have %v %d of\n%s", seed, ok, e, showAll(h))
		}
		for i, x := range h {
			seen[fmt.Sprint("kind ", x.Kind)]++
			seen[fmt.Sprint("code ", x.Reply.Code)]++
			if x.Kind != api.OpGet || x.Reply.Code != api.RDone {
				continue
			}
			h[i].Reply.Value += " spoilt" // nobody put that
			ok, _ := lin.Check(h)
			is(t, ok, false)
			h[i] = x
		}
	}
	for _, s := range []string{"kind 1", "kind 2", "kind 3", "kind 4", "code 0", "code 1", "code 2", "code 3"} {
		if seen[s] < 50 {
			t.Errorf("%s: only %d times", s, seen[s])
		}
	}
}
