package track_test

import (
	"math/rand/v2"
	"runtime"
	"slices"
	"testing"
	"weak"

	"synod/track"
)

func TestP9_8_ListIsNotChanged(t *testing.T) {
	for _, l := range [][]int{{7}, {9, 1}, {9, 1, 5}, {4, 3, 2, 1}, {5, 1, 4, 2, 3}, {7, 6, 5, 4, 3, 2, 1}, {8, 7, 6, 5, 4, 3, 2, 1}, nil} {
		// What lies behind the length belongs to nobody.
		roomy := append(slices.Clone(l), 77, 99, 88)
		before := slices.Clone(roomy)
		for range 3 {
			is(t, track.Commit(roomy[:len(l)]), track.Commit(slices.Clip(slices.Clone(l))))
			is(t, roomy, before)
		}
	}
}

func TestP9_8_NilIsTheEmptyList(t *testing.T) {
	is(t, say(track.Commit(nil), track.Commit([]int{}), track.Commit([]int{5, 6}[:0])), "0 0 0")
}

func TestP9_8_ListIsNotKept(t *testing.T) {
	l := []int{5, 3, 9, 4, 8}
	is(t, track.Commit(l), 5)
	clear(l)
	is(t, track.Commit(l), 0)
	p := new([7]int)
	track.Commit(p[:])
	w := weak.Make(p)
	p = nil
	runtime.GC()
	if w.Value() != nil {
		t.Error("the list is kept")
	}
}

// What the window tells is the caller's.
func TestP9_8_ScribbledOver(t *testing.T) {
	p := replicating(t, 4, 4, 6, 7, 9)
	l := p.Items()
	for i := range l[:cap(l)] {
		l[:cap(l)][i] = 99
	}
	_ = append(l, 98)
	look(t, p, "Replicate 4 10 true [6 7 9]")
}

// One progress is nothing to another one: plays go on in turn, on some of them.
func TestP9_8_ManyProgresses(t *testing.T) {
	var players []*player
	for i := range 6 {
		p := newPlayer(t, uint64(80+i))
		p.begin()
		players = append(players, p)
	}
	r := rand.New(rand.NewPCG(8, 9))
	for range 6000 {
		players[r.IntN(len(players))].step()
		for _, p := range players {
			if whole(p.p) != p.m.whole() {
				t.Fatalf("%s; the model has %s", whole(p.p), p.m.whole())
			}
		}
	}
}

// Numbers that are out of question are answered in some way: no call panics, each ends.
func TestP9_8_OutOfQuestion(t *testing.T) {
	numbers := append(far(), 0, 1, 2, 5, top-1, top)
	r := rand.New(rand.NewPCG(8, 8))
	pick := func() int { return numbers[r.IntN(len(numbers))] }
	for range 4000 {
		track.Commit([]int{pick(), pick(), pick()})
		p := made(t, pick(), 1+r.IntN(3))
		for range 12 {
			p.Sent(pick())
			switch r.IntN(4) {
			case 0:
				p.Acked(pick())
			case 1:
				p.Rejected(pick(), pick())
			case 2:
				p.Beat()
			case 3:
				p.Snap(pick())
			}
			if s := p.State(); s < track.Probe || s > track.Snapshot {
				t.Fatalf("state %d", s)
			}
			p.May()
		}
	}
}
