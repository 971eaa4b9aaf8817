package track_test

import (
	"testing"

	"synod/api"
	"synod/track"
)

// votesOf is no votes of so many nodes.
func votesOf(t *testing.T, n int) *track.Votes {
	t.Helper()
	v := track.NewVotes(n)
	if v == nil {
		t.Fatalf("NewVotes(%d) is nil", n)
	}
	return v
}

// count holds all that votes tell against how many have granted, how many not, and what that says.
func count(t *testing.T, v *track.Votes, granted, refused, result int) {
	t.Helper()
	a, b := v.Counts()
	is(t, say(a, b, v.Result()), say(granted, refused, result))
}

func TestP9_2_Example(t *testing.T) {
	v := votesOf(t, 3)
	is(t, say(v.Put(1, true), v.Put(1, false), v.Put(4, true), v.Result()), say(true, false, false, track.Open))
	is(t, say(v.Put(2, false), v.Put(3, false), v.Result()), say(true, true, track.Lost))
	count(t, v, 1, 2, track.Lost)
}

func TestP9_2_NewVotes(t *testing.T) {
	for n := 1; n <= api.MaxNodes; n++ {
		count(t, votesOf(t, n), 0, 0, track.Open)
	}
	for _, n := range append(far(), 0, api.MaxNodes+1, api.MaxNodes+2, 64) {
		if track.NewVotes(n) != nil {
			t.Errorf("NewVotes(%d) is not nil", n)
		}
	}
}

func TestP9_2_WrongIDs(t *testing.T) {
	for n := 1; n <= api.MaxNodes; n++ {
		v := votesOf(t, n)
		for id := -20; id <= 20; id++ {
			if 1 <= id && id <= n {
				continue
			}
			is(t, say(v.Put(id, true), v.Put(id, false)), "false false")
		}
		for _, id := range far() {
			is(t, say(v.Put(id, true), v.Put(id, false)), "false false")
		}
		count(t, v, 0, 0, track.Open)
		// They are no hindrance to right ones.
		for id := 1; id <= n; id++ {
			is(t, v.Put(id, true), true)
		}
		count(t, v, n, 0, track.Won)
		is(t, say(v.Put(0, true), v.Put(n+1, true)), "false false")
		count(t, v, n, 0, track.Won)
	}
}

// How many it takes, where all say one thing.
func TestP9_2_AllOfOneMind(t *testing.T) {
	for n, x := range []struct{ win, lose int }{1: {1, 1}, 2: {2, 1}, 3: {2, 2}, 4: {3, 2}, 5: {3, 3}, 6: {4, 3}, 7: {4, 4}} {
		if n == 0 {
			continue
		}
		yes, no := votesOf(t, n), votesOf(t, n)
		for k := 1; k <= n; k++ {
			won, lost := track.Open, track.Open
			if k >= x.win {
				won = track.Won
			}
			if k >= x.lose {
				lost = track.Lost
			}
			is(t, say(yes.Put(n+1-k, true), no.Put(k, false)), "true true")
			count(t, yes, k, 0, won)
			count(t, no, 0, k, lost)
		}
	}
}

// wins tells what so many votes of n say: it is won, if a quorum has granted; open, if all that are left could make it so.
func wins(n, granted, refused int) int {
	left := n - granted - refused
	switch {
	case 2*granted > n:
		return track.Won
	case 2*(granted+left) > n:
		return track.Open
	}
	return track.Lost
}

// All that the nodes can say: each grants, or refuses, or says nothing; they come rising, falling, and the odd ones ahead.
func TestP9_2_AllVotes(t *testing.T) {
	for n := 1; n <= api.MaxNodes; n++ {
		var rising, falling, odd, even []int
		for id := 1; id <= n; id++ {
			rising, falling = append(rising, id), append(falling, n+1-id)
			if id%2 == 1 {
				odd = append(odd, id)
			} else {
				even = append(even, id)
			}
		}
		lists(n, 3, func(words []int) {
			for _, order := range [][]int{rising, falling, append(odd, even...)} {
				allPut(t, n, order, words)
			}
		})
	}
}

// allPut puts votes in an order; a node whose word is 2 says nothing.
func allPut(t *testing.T, n int, order, words []int) {
	t.Helper()
	v := votesOf(t, n)
	var counts [2]int
	for _, id := range order {
		word := words[id-1]
		if word == 2 {
			continue
		}
		ok := v.Put(id, word == 0)
		counts[word]++
		granted, refused := v.Counts()
		if !ok || granted != counts[0] || refused != counts[1] || v.Result() != wins(n, counts[0], counts[1]) {
			t.Fatalf("of %d, %v: %t; %d and %d, which says %d", n, words, ok, granted, refused, v.Result())
		}
	}
}

func TestP9_2_TwoVotes(t *testing.T) {
	a, b := votesOf(t, 3), votesOf(t, 3)
	a.Put(1, true)
	a.Put(2, true)
	is(t, say(b.Put(1, false), b.Put(2, false)), "true true")
	count(t, a, 2, 0, track.Won)
	count(t, b, 0, 2, track.Lost)
}

// Asking changes nothing.
func TestP9_2_Asked(t *testing.T) {
	v := votesOf(t, 5)
	v.Put(5, true)
	v.Put(4, false)
	for range 5 {
		count(t, v, 1, 1, track.Open)
	}
}
