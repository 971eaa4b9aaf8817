package node_test

import (
	"math/rand/v2"
	"testing"

	"synod/api"
	"synod/codec"
	"synod/kv"
	"synod/node"
)

// anything is a message of which little is held back: numbers are small ones, or lie at the ends of what may be.
// Those of the log are often ones that the node has.
func anything(r *rand.Rand, s *site) api.Message {
	last := s.n.View().Core.Last
	n := func() int {
		if r.IntN(400) == 0 {
			return top - r.IntN(3)
		}
		return max(0, min(top, last+3)-r.IntN(14))
	}
	x := api.Message{Kind: 1 + r.IntN(7), From: 2 + r.IntN(s.o.Core.Nodes-1), To: 1, Term: max(1, s.n.View().Core.Term)}
	if x.Kind == api.MSnap && r.IntN(5) > 0 {
		x.Kind = api.MApp
	}
	if r.IntN(25) == 0 {
		x.Term += r.IntN(3) - 1
	}
	if r.IntN(300) == 0 {
		x.Term = n()
	}
	x.Term = max(1, x.Term)
	switch x.Kind {
	case api.MVote, api.MApp:
		if x.Index = n(); x.Index > 0 {
			x.LogTerm = 1 + r.IntN(max(1, min(x.Term-1, 5)))
		}
		if base, term, l := s.n.Log(); r.IntN(2) == 0 {
			x.Index, x.LogTerm = base, term
			if i := r.IntN(len(l) + 1); i > 0 {
				x.Index, x.LogTerm = l[i-1].Index, l[i-1].Term
			}
		}
		if x.Kind == api.MApp {
			x.Commit = n()
			x.Entries = behind(r, x.Index, x.LogTerm, x.Term)
		}
	case api.MVoteAns:
		x.Reject = r.IntN(6) == 0
	case api.MAppAns:
		if x.Index, x.Reject = n(), r.IntN(2) == 0; x.Reject {
			x.Hint = n()
		}
	case api.MBeat:
		x.Commit, x.Ctx = n(), n()
	case api.MBeatAns:
		x.Ctx = n()
	case api.MSnap:
		x.Snap = api.Snap{Index: max(1, n()), Term: 1 + r.IntN(min(x.Term, 5)), Data: [][]byte{nil, []byte("x"), kv.New().Snapshot()}[r.IntN(3)]}
	}
	return x
}

// behind is some entries that may stand behind an index and a term, up to another term.
func behind(r *rand.Rand, index, term, most int) []api.Entry {
	var l []api.Entry
	for range r.IntN(4) {
		index++
		term = max(1, min(most, term+r.IntN(2)))
		x := empty(term, index)
		switch r.IntN(3) {
		case 0:
			x = commands(term, index, put(1+r.IntN(3), 1+r.IntN(9), "a", "x"))
		case 1:
			x = api.Entry{Term: term, Index: index, Kind: api.ECommand, Data: []byte("none")}
		}
		l = append(l, x)
	}
	return l
}

// Whatever comes in: the node does as its model, and goes down only where the disk fails.
func TestP12_3_AnyMessages(t *testing.T) {
	t.Parallel()
	counts := map[string]int{}
	for seed := range uint64(400) {
		c := newCluster(t, 7000+seed, counts)
		if c.sites[0].o.Core.Nodes == 1 {
			continue
		}
		c.odd = true
		s := c.sites[0]
		for range 600 {
			m := anything(c.r, s)
			if (codec.Messages{}).Check(m) != api.OK {
				continue
			}
			counts["message"]++
			switch c.r.IntN(9) {
			case 0, 8:
				c.do(s, ticked(c.r.IntN(3)))
			case 1:
				c.sweepAny(s)
			case 2:
				c.ids++
				x := puts(c.ids, "a", "y")
				if c.r.IntN(2) == 0 {
					x = gets(c.ids, "a")
				}
				if c.do(s, called(x)).Did {
					s.asked[x.ID] = x.Command.Op
				}
			default:
				c.do(s, delivered(m))
			}
			for range 4 {
				c.pickAny(s, 1+c.r.IntN(9))
			}
		}
		c.pure(s)
	}
	enough(t, counts, 10000, "message")
	enough(t, counts, 1000, "apply, sync, send, snap")
	enough(t, counts, 30, "reply lost")
}

// pickAny does a pick to one node of a cluster that hears from nobody but the test: its store is like no other's.
func (c *cluster) pickAny(s *site, kind int) bool {
	clear(c.stores)
	did := c.do(s, picked(kind)).Did
	if !s.n.View().Up {
		c.t.Fatalf("it went down, and the disk didn't\n%s", s.tale())
	}
	return did
}

func (c *cluster) sweepAny(s *site) {
	for kind := 1; kind < 10; kind++ {
		for c.pickAny(s, kind) {
		}
	}
}

// No call panics, at all ints.
func TestP12_2_AnyNumbers(t *testing.T) {
	for _, k := range []kit{made(t, opts(1, 3)), led(t, opts(1, 1)), serving(t, opts(1, 3)), busy(t), downed(t)} {
		for _, n := range append(far(), 0, 1, top) {
			k.n.Tick(n)
			k.n.Pick(node.PTick)
			k.n.Pick(n)
			k.n.Call(gets(n, "a"))
			k.n.Call(node.Call{ID: n, Command: put(n, n, "a", "x")})
			k.n.Call(node.Call{ID: n, Command: api.Command{Op: n}})
			node.Do(k.n, node.Act{Kind: n, N: n})
			k.rest()
		}
		k.n.Stop()
		k.rest()
		is(t, k.n.Done(), k.n.View().Up)
	}
}
