package kv_test

import (
	"bytes"
	"math/rand/v2"
	"testing"

	"synod/api"
	"synod/kv"
)

// what is a store without its sessions: what a command has effect on.
func what(s *kv.Store) string {
	text := ""
	for k, v := range s.Each() {
		text += k + "=" + v + " "
	}
	return text
}

// once is a client's number.
type once struct{ client, seq int }

func TestP11_6_Once(t *testing.T) {
	r := rand.New(rand.NewPCG(11, 6))
	again, old := 0, 0
	for range 300 {
		p := newPlayer(t, r)
		got := map[once]api.Reply{} // what a number of a client got first, if the store told it what it did
		effects := map[once]int{}
		greatest := map[int]int{}
		for range 120 {
			was := what(p.s)
			c, reply := p.step()
			if reply.Code == 0 {
				continue
			}
			at := once{c.Client, c.Seq}
			if what(p.s) != was {
				effects[at]++
			}
			if effects[at] > 1 {
				t.Fatalf("%v has effect twice", at)
			}
			first, seen := got[at]
			switch {
			case c.Seq < greatest[c.Client]:
				old++
				is(t, reply, api.Reply{Code: api.ROld})
			case seen:
				again++
				is(t, reply, first)
			default:
				got[at] = reply
			}
			greatest[c.Client] = max(greatest[c.Client], c.Seq)
		}
	}
	if again < 1000 || old < 1000 {
		t.Errorf("too few: %d, %d", again, old)
	}
}

// A command that comes again behind every later one of the others gets what it got, and changes nothing.
func TestP11_6_AgainBehindOthers(t *testing.T) {
	for _, c := range []api.Command{put(1, 3, "a", "x"), remove(1, 3, "k"), swap(1, 3, "k", "x", "v"), swap(1, 3, "k", "x", "w"), remove(1, 3, "none")} {
		s := done(t, put(9, 1, "k", "v"))
		first, _ := s.Do(c)
		for i, other := range []api.Command{put(2, 1, "a", "2"), remove(3, 1, "a"), put(4, 1, "k", "4"), put(5, 1, "none", "5"), remove(2, 2, "k")} {
			s.Do(other)
			unchanged(t, s, c, first.Code, first.Value)
			does(t, s, remove(6, i+1, "never"), api.RNone, "")
		}
		does(t, s, remove(1, 4, "never"), api.RNone, "")
		unchanged(t, s, c, api.ROld, "")
	}
}

func TestP11_7_RisingSeqs(t *testing.T) {
	r := rand.New(rand.NewPCG(11, 7))
	effects := 0
	for range 300 {
		p := newPlayer(t, r)
		last := map[int]int{}
		for range 120 {
			was := what(p.s)
			c, _ := p.step()
			if what(p.s) == was {
				continue
			}
			effects++
			if c.Seq <= last[c.Client] {
				t.Fatalf("%v has effect behind %d", c, last[c.Client])
			}
			last[c.Client] = c.Seq
		}
	}
	if effects < 5000 {
		t.Errorf("too few: %d", effects)
	}
}

// Clients whose keys are their own get what each of them would get alone, however their commands mix.
func TestP11_7_ClientsApart(t *testing.T) {
	r := rand.New(rand.NewPCG(11, 77))
	for range 200 {
		p := newPlayer(t, r)
		s := kv.New()
		alone := map[int]*kv.Store{}
		for range 100 {
			c := p.command()
			c.Key = string(rune('a'+c.Client)) + c.Key
			if alone[c.Client] == nil {
				alone[c.Client] = kv.New()
			}
			have, _ := s.Do(c)
			want, _ := alone[c.Client].Do(c)
			is(t, have, want)
		}
		sessions, keys := 0, 0
		for _, x := range s.Sessions() {
			is(t, x, alone[x.Client].Sessions()[0])
			sessions++
		}
		for _, own := range alone {
			for k, v := range own.Each() {
				is(t, s.Get(k), api.Reply{Code: api.RDone, Value: v})
				keys++
			}
		}
		is(t, say(sessions, keys), say(len(alone), s.Len()))
	}
}

func TestP11_8_ThereAndBack(t *testing.T) {
	r := rand.New(rand.NewPCG(11, 8))
	for round := range 200 {
		p := newPlayer(t, r)
		if round%20 == 0 {
			p.n = 200
		}
		for range r.IntN(2 * p.n * p.n / 10) {
			p.step()
		}
		b := p.s.Snapshot()
		back, e := kv.Restore(b)
		if e != api.OK || !bytes.Equal(back.Snapshot(), b) {
			t.Fatalf("% x: %d", b, e)
		}
		is(t, all(back), all(p.s))
		is(t, all(p.s.Copy()), all(p.s))
		copied := p.s.Copy()
		for range 60 {
			c := p.command()
			if r.IntN(10) == 0 {
				c = p.wrong()
			}
			have, e := back.Do(c)
			other, f := copied.Do(c)
			want, g := p.s.Do(c)
			is(t, say(have, e, other, f), say(want, g, want, g))
			is(t, say(back.Get(c.Key), copied.Get(c.Key)), say(p.s.Get(c.Key), p.s.Get(c.Key)))
		}
		is(t, all(back), all(p.s))
		is(t, all(copied), all(p.s))
	}
}

// What a restore takes goes on to be taken: the snapshot behind any commands is one, too.
func TestP11_8_EverySnapshotIsTaken(t *testing.T) {
	r := rand.New(rand.NewPCG(11, 88))
	p := newPlayer(t, r)
	for range 500 {
		p.step()
		b := p.s.Snapshot()
		restores(t, b, api.OK)
		is(t, judged(b), api.OK)
		p.s, _ = kv.Restore(b) // it goes on by what was restored
		p.alike()
	}
}

// Looks at the one store, and none at the other one: both do the same.
func TestP11_9_CommandsAlone(t *testing.T) {
	r := rand.New(rand.NewPCG(11, 9))
	for range 100 {
		p := newPlayer(t, r)
		other := kv.New()
		for range 80 {
			c, reply := p.step()
			have, _ := other.Do(c)
			is(t, have, reply)
			p.s.Get(p.key())
			p.s.Get("never")
			p.s.Get("")
			p.s.Copy().Do(p.command())
			for range p.s.Each() {
				break
			}
			p.s.Keys()
			p.s.Sessions()
			if !bytes.Equal(p.s.Snapshot(), other.Snapshot()) {
				t.Fatalf("% x; % x", p.s.Snapshot(), other.Snapshot())
			}
		}
	}
}

// The same keys and sessions by another way are the same snapshot: nothing is left of what is gone.
func TestP11_9_NothingIsLeft(t *testing.T) {
	one := done(t, put(1, 1, "a", "x"), put(2, 7, "b", "y"))
	two := done(t, put(2, 1, "c", "q"), put(2, 2, "a", "q"), put(2, 3, "b", "z"), remove(2, 4, "c"), remove(2, 5, "a"), put(1, 1, "a", "x"), put(2, 7, "b", "y"))
	is(t, all(one), all(two))
}
