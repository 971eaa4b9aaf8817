package run_test

import (
	"math/rand/v2"
	"testing"

	"synod/api"
	"synod/node"
	"synod/run"
)

// shaped is lists of these lengths; each act tells its list and its place.
func shaped(lengths ...int) [][]node.Act {
	var lists [][]node.Act
	for i, n := range lengths {
		var l []node.Act
		for k := range n {
			l = append(l, node.Act{Kind: i, N: k})
		}
		lists = append(lists, l)
	}
	return lists
}

// The chapter's example, and others.
func TestP13_3_Merge(t *testing.T) {
	for _, x := range []struct {
		lengths []int
		want    string
	}{
		{nil, ""},
		{[]int{0}, ""},
		{[]int{0, 0, 0}, ""},
		{[]int{2, 0, 1}, "00 20 01"},
		{[]int{3}, "00 01 02"},
		{[]int{1, 3}, "00 10 11 12"},
		{[]int{3, 1}, "00 10 01 02"},
		{[]int{0, 2, 0, 3, 1}, "10 30 40 11 31 32"},
		{[]int{2, 2, 2}, "00 10 20 01 11 21"},
		{[]int{1, 2, 3, 0}, "00 10 20 11 21 22"},
	} {
		s := ""
		for i, a := range run.Merge(shaped(x.lengths...)) {
			if i > 0 {
				s += " "
			}
			s += string(rune('0'+a.Kind)) + string(rune('0'+a.N))
		}
		is(t, s, x.want)
	}
}

// All of an act goes over.
func TestP13_3_Whole(t *testing.T) {
	a := node.Act{Kind: 7, N: -3, Data: []byte("ab"), Call: puts(5, "k", "v")}
	b := node.Act{Kind: node.AStop, Data: []byte{}, Call: gets(6, "k")}
	c := node.Act{}
	is(t, say(run.Merge([][]node.Act{{a, c}, {b}})), say([]node.Act{a, b, c}))
}

// Held against its words: an act stands behind all those of lesser places, and, of its own place, behind those of the lists
// ahead of its own.
func TestP13_3_AnyLists(t *testing.T) {
	r := rand.New(rand.NewPCG(3, 13))
	for range 300 {
		lengths := make([]int, r.IntN(9))
		for i := range lengths {
			lengths[i] = r.IntN(7)
		}
		lists := shaped(lengths...)
		var want []node.Act
		for place := range 7 {
			for _, l := range lists {
				for _, a := range l {
					if a.N == place {
						want = append(want, a)
					}
				}
			}
		}
		is(t, say(run.Merge(lists)), say(want))
	}
}

// A list that is long costs nothing for each of many others that are short.
func TestP13_3_LongAndMany(t *testing.T) {
	lists := shaped(200000)
	for range 200000 {
		lists = append(lists, []node.Act{{Kind: 1}}, nil)
	}
	l := run.Merge(lists)
	is(t, say(len(l), l[0].Kind, l[1].Kind, l[200000].Kind, l[200001]), say(400000, 0, 1, 1, node.Act{N: 1}))
}

// What is merged may be played.
func TestP13_3_Played(t *testing.T) {
	acts := run.Merge([][]node.Act{
		{ticked(0), ticked(0), ticked(0), ticked(0)},
		picks(node.PTick, node.PTick, node.PTick, node.PTick, node.PWork, node.PWrite, node.PSync),
	})
	o := opts(1, 1)
	o.Core.Election = 4
	told, _, e := run.Play(o, nil, 0, acts)
	is(t, say(e, len(told), told[10].Events), say(api.OK, 11, []node.Event{{Kind: node.ESync, Number: 1}}))
}
