package run_test

import (
	"fmt"
	"math"
	"strings"
	"testing"

	"synod/api"
	"synod/core"
	"synod/node"
)

// say is all of a list of answers, as one text.
func say(l ...any) string { return strings.TrimSuffix(fmt.Sprintln(l...), "\n") }

// is holds an answer against the one that the document asks.
func is(t *testing.T, have, want any) {
	t.Helper()
	if say(have) != say(want) {
		t.Errorf("have %v\nwant %v", have, want)
	}
}

// far are ints that lie far out of range.
func far() []int {
	return []int{math.MinInt, math.MinInt + 1, -api.MaxIndex, -8, -1, api.MaxIndex + 1, math.MaxInt - 1, math.MaxInt}
}

// opts are chapter 12's, of one of some nodes.
func opts(id, nodes int) node.Opts {
	return node.Opts{
		Core:    core.Opts{ID: id, Nodes: nodes, Election: 10, Beat: 1, Batch: 8, Window: 4, Reads: 4, Pending: 100},
		Segment: 4096, Inbox: 4, Ticks: 4, Calls: 4, Jobs: 4, Applies: 4, Out: 4,
	}
}

func ticked(draw int) node.Act    { return node.Act{Kind: node.ATick, N: draw} }
func picked(kind int) node.Act    { return node.Act{Kind: node.APick, N: kind} }
func called(c node.Call) node.Act { return node.Act{Kind: node.ACall, Call: c} }
func stopped() node.Act           { return node.Act{Kind: node.AStop} }

// puts is a call of client 1 whose Seq is the call's ID.
func puts(id int, key, value string) node.Call {
	return node.Call{ID: id, Command: api.Command{Op: api.OpPut, Client: 1, Seq: id, Key: key, Value: value}}
}

func gets(id int, key string) node.Call {
	return node.Call{ID: id, Command: api.Command{Op: api.OpGet, Key: key}}
}

// picks is picks of these kinds, one behind the other.
func picks(kinds ...int) []node.Act {
	var l []node.Act
	for _, k := range kinds {
		l = append(l, picked(k))
	}
	return l
}

// led is acts by which a node that is alone leads: ten ticks, and their picks.
func led() []node.Act {
	var l []node.Act
	for range 10 {
		l = append(l, ticked(0), picked(node.PTick))
	}
	return l
}

// crowd is so many files that a node has nothing to do with.
func crowd(n int) []api.File {
	var l []api.File
	for i := range n {
		l = append(l, api.File{Name: fmt.Sprintf("f%03d", i), Data: []byte("abc"), Synced: 2})
	}
	return l
}
