package track_test

import (
	"math/bits"
	"math/rand/v2"
	"slices"
	"testing"

	"synod/api"
	"synod/track"
)

// quorums are all sets of n nodes, as bits, that have a quorum.
func quorums(n int) []uint {
	var l []uint
	for set := range uint(1) << n {
		if bits.OnesCount(set) >= track.Quorum(n) {
			l = append(l, set)
		}
	}
	return l
}

func TestP9_9_QuorumsMeet(t *testing.T) {
	for n := 1; n <= api.MaxNodes; n++ {
		l := quorums(n)
		if len(l) == 0 {
			t.Errorf("%d nodes are no quorum of %d", track.Quorum(n), n)
		}
		for _, a := range l {
			for _, b := range l {
				if a&b == 0 {
					t.Errorf("of %d nodes %b and %b have none in common", n, a, b)
				}
			}
		}
		// One node less would not do.
		if 2*(track.Quorum(n)-1) > n {
			t.Errorf("%d of %d nodes would be enough", track.Quorum(n)-1, n)
		}
	}
}

// orders goes over all orders of a list.
func orders(l []int, f func(l []int)) {
	if len(l) == 0 {
		f(l)
		return
	}
	for i := range l {
		rest := slices.Delete(slices.Clone(l), i, i+1)
		orders(rest, func(o []int) { f(append([]int{l[i]}, o...)) })
	}
}

func TestP9_9_CommitInAnyOrder(t *testing.T) {
	for _, l := range [][]int{{4}, {4, 9}, {3, 1, 2}, {5, 0, 5}, {8, 2, 2, 8}, {1, 2, 3, 4}, {7, 7, 1, 9, 3}, {6, 5, 4, 3, 2, 1}, {0, 3, 3, 5, 9, top, 1}} {
		want := greatest(l)
		orders(l, func(o []int) {
			if n := track.Commit(o); n != want {
				t.Errorf("Commit(%v) is %d, Commit(%v) is %d", o, n, l, want)
			}
		})
	}
}

// Where one number rises Commit doesn't fall.
func TestP9_9_CommitRises(t *testing.T) {
	for length, bound := range []int{1, 7, 7, 5, 4, 4, 3, 3} {
		lists(length, bound, func(l []int) {
			before := track.Commit(l)
			higher := slices.Clone(l)
			for i := range higher {
				for _, by := range []int{1, 2, 9} {
					higher[i] = l[i] + by
					if n := track.Commit(higher); n < before {
						t.Errorf("Commit(%v) is %d, Commit(%v) is %d", higher, n, l, before)
					}
				}
				higher[i] = l[i]
			}
		})
	}
}

func TestP9_9_AQuorumHasIt(t *testing.T) {
	r := rand.New(rand.NewPCG(9, 9))
	for range 20000 {
		l := make([]int, 1+r.IntN(api.MaxNodes))
		bound := []int{2, 5, 100, top}[r.IntN(4)]
		for i := range l {
			l[i] = r.IntN(bound) + 1
		}
		n := track.Commit(l)
		quorum := track.Quorum(len(l))
		if haveIt(l, n) < quorum || haveIt(l, n+1) >= quorum {
			t.Errorf("Commit(%v) is %d", l, n)
		}
	}
}

func TestP9_10_NextAboveMatch(t *testing.T) {
	p := newPlayer(t, 10)
	for range 4000 {
		p.begin()
		match := 0
		for range 60 {
			p.step()
			if p.p.Next() <= p.p.Match() || p.p.Match() < match {
				t.Fatalf("Match %d, Next %d behind Match %d: %v", p.p.Match(), p.p.Next(), match, p.log)
			}
			match = p.p.Match()
		}
	}
}

// send sends all that may be sent, with so many entries a message; how many messages that were, up to a bound.
func send(p *track.Progress, entries, most int) int {
	n := 0
	for p.May() && n < most {
		p.Sent(p.Next() + entries - 1)
		n++
	}
	return n
}

func TestP9_10_MessagesBetweenAnswers(t *testing.T) {
	p := newPlayer(t, 11)
	for range 2000 {
		p.begin()
		room := p.m.room
		for range 40 {
			// Near the last index there is nothing more to be sent.
			if p.p.Next() > top-1000 {
				break
			}
			state, most := p.p.State(), []int{track.Probe: 1, track.Replicate: room, track.Snapshot: 0}[p.p.State()]
			n := 0
			for range 3 {
				n += send(p.p, 1+p.r.IntN(3), 2*room)
			}
			if n > most || p.p.May() || p.p.State() != state {
				t.Fatalf("%d messages in state %d with room for %d: %v", n, state, room, p.log)
			}
			p.calls[say(state, min(n, 2))]++
			// Then an answer of some kind comes, or a snapshot goes.
			p.m.match, p.m.next, p.m.sent = p.p.Match(), p.p.Next(), p.p.Items()
			switch index := p.index(); p.r.IntN(6) {
			case 0:
				p.p.Beat()
			case 1:
				p.p.Rejected(index, p.index())
			case 2:
				p.p.Snap(index)
			default:
				p.p.Acked(index)
			}
		}
	}
	p.enough(300, "0 1", "1 0", "1 1", "1 2", "2 0")
}

// In Probe a message without entries is one too; an answer that isn't that message's lets none through.
func TestP9_10_OneProbe(t *testing.T) {
	p := made(t, 8, 5)
	is(t, send(p, 0, 9), 1)
	is(t, say(p.Rejected(3, 0), p.Rejected(6, 9), p.Rejected(8, 7), send(p, 4, 9)), "false false false 0")
	is(t, say(p.Rejected(7, 5), send(p, 4, 9), send(p, 0, 9)), "true 1 0")
	p.Beat()
	is(t, say(send(p, 0, 9), send(p, 2, 9)), "1 0")
	is(t, say(p.Acked(5), send(p, 2, 9), send(p, 2, 9)), "true 5 0")
	// A beat lets one through, an answer all that it speaks of.
	p.Beat()
	is(t, say(send(p, 2, 9), send(p, 2, 9)), "1 0")
	is(t, say(p.Acked(13), send(p, 2, 9), p.Acked(17), p.Acked(16), send(p, 1, 9)), "true 3 true false 2")
}

// Votes come again and again, at random: the first one of each node counts.
func TestP9_11_FirstVotesCount(t *testing.T) {
	r := rand.New(rand.NewPCG(11, 9))
	results := map[int]int{}
	for range 6000 {
		n := 1 + r.IntN(api.MaxNodes)
		v := votesOf(t, n)
		first := map[int]bool{}
		granted, was := 0, track.Open
		for range 20 {
			id, yes := r.IntN(n+3)-1, r.IntN(2) == 0
			_, again := first[id]
			counts := id >= 1 && id <= n && !again
			if counts {
				first[id] = yes
			}
			if counts && yes {
				granted++
			}
			is(t, v.Put(id, yes), counts)
			count(t, v, granted, len(first)-granted, wins(n, granted, len(first)-granted))
			if was != track.Open && v.Result() != was {
				t.Fatalf("%d is left for %d", was, v.Result())
			}
			was = v.Result()
		}
		results[was]++
	}
	if results[track.Won] < 1000 || results[track.Lost] < 1000 {
		t.Errorf("results %v", results)
	}
}

// No later vote of a node counts, whatever it said first: neither the same word again nor another one.
func TestP9_11_NoLaterVotes(t *testing.T) {
	for n := 1; n <= api.MaxNodes; n++ {
		for id := 1; id <= n; id++ {
			for _, word := range []bool{false, true} {
				v := votesOf(t, n)
				is(t, v.Put(id, word), true)
				granted, refused := v.Counts()
				result := v.Result()
				for range n {
					is(t, say(v.Put(id, true), v.Put(id, false)), "false false")
				}
				count(t, v, granted, refused, result)
			}
		}
	}
}
