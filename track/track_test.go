package track_test

import (
	"fmt"
	"math"
	"slices"
	"strings"
	"testing"

	"synod/api"
	"synod/track"
)

const top = api.MaxIndex

// far are ints that lie far out of range.
func far() []int {
	return []int{math.MinInt, math.MinInt + 1, -top, -8, -1, top + 1, 2*top - 1, math.MaxInt - 1, math.MaxInt}
}

// say is anything as text, with a blank between.
func say(x ...any) string { return strings.TrimSuffix(fmt.Sprintln(x...), "\n") }

// is holds an answer against the one that the document asks.
func is(t *testing.T, have, want any) {
	t.Helper()
	if say(have) != say(want) {
		t.Errorf("have %v; want %v", have, want)
	}
}

func TestP9_1_Names(t *testing.T) {
	is(t, say(track.Probe, track.Replicate, track.Snapshot), "0 1 2")
	is(t, say(track.Open, track.Won, track.Lost), "0 1 2")
}

func TestP9_1_Quorum(t *testing.T) {
	var l []int
	for n := range 10 {
		l = append(l, track.Quorum(n))
	}
	is(t, l, []int{0, 1, 2, 2, 3, 3, 4, 4, 0, 0})
	for _, n := range far() {
		is(t, track.Quorum(n), 0)
	}
}

func TestP9_1_Commit(t *testing.T) {
	for _, x := range []struct {
		match []int
		want  int
	}{
		{[]int{5, 3, 9}, 5},
		{[]int{5, 3, 9, 1}, 3},
		{nil, 0},
		{[]int{}, 0},
		{[]int{7}, 7},
		{[]int{0}, 0},
		{[]int{top}, top},
		{[]int{4, 2}, 2},
		{[]int{2, 4}, 2},
		{[]int{0, top}, 0},
		{[]int{0, top, top}, top},
		{[]int{top, 0, 0}, 0},
		{[]int{8, 8, 8}, 8},
		{[]int{8, 8, 1, 1}, 1},
		{[]int{8, 1, 8, 8}, 8},
		{[]int{1, 2, 3, 4, 5}, 3},
		{[]int{5, 4, 3, 2, 1}, 3},
		{[]int{9, 0, 9, 0, 9}, 9},
		{[]int{6, 1, 5, 2, 4, 3}, 3},
		{[]int{10, 70, 20, 60, 30, 50, 40}, 40},
		{[]int{top, top - 1, top - 2, top - 3, 1, 1, 1}, top - 3},
	} {
		if n := track.Commit(x.match); n != x.want {
			t.Errorf("Commit(%v) is %d, not %d", x.match, n, x.want)
		}
	}
}

func TestP9_1_CommitOfTooMany(t *testing.T) {
	for _, n := range []int{api.MaxNodes + 1, api.MaxNodes + 2, 64, 1 << 16} {
		is(t, track.Commit(slices.Repeat([]int{5}, n)), 0)
	}
	is(t, track.Commit(slices.Repeat([]int{5}, api.MaxNodes)), 5)
}

// By what the words say: of all numbers of the list, the greatest one that a quorum is at least.
func greatest(match []int) int {
	best := 0
	for _, x := range match {
		if x > best && haveIt(match, x) >= len(match)/2+1 {
			best = x
		}
	}
	return best
}

// haveIt tells how many are at least a number.
func haveIt(match []int, number int) int {
	n := 0
	for _, x := range match {
		if x >= number {
			n++
		}
	}
	return n
}

// lists goes over all lists of a length whose numbers are below a bound.
func lists(length, bound int, f func(l []int)) {
	l := make([]int, length)
	for {
		f(l)
		i := 0
		for i < length && l[i] == bound-1 {
			l[i] = 0
			i++
		}
		if i == length {
			return
		}
		l[i]++
	}
}

func TestP9_1_CommitOfAllLists(t *testing.T) {
	for length, bound := range []int{1, 9, 9, 7, 6, 5, 5, 4} {
		lists(length, bound, func(l []int) {
			if n := track.Commit(l); n != greatest(l) {
				t.Errorf("Commit(%v) is %d, not %d", l, n, greatest(l))
			}
		})
	}
}
