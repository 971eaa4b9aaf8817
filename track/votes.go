package track

import "synod/api"

// Votes counts votes.
type Votes struct {
	nodes            int
	voted            [api.MaxNodes]bool // by id less 1
	granted, refused int
}

// NewVotes makes no votes.
func NewVotes(n int) *Votes {
	if !possible(n) {
		return nil
	}
	return &Votes{nodes: n}
}

// Put counts a node's vote.
func (v *Votes) Put(id int, granted bool) bool {
	if id < 1 || id > v.nodes || v.voted[id-1] {
		return false
	}
	v.voted[id-1] = true
	if granted {
		v.granted++
	} else {
		v.refused++
	}
	return true
}

// Result tells what they say.
func (v *Votes) Result() int {
	quorum := Quorum(v.nodes)
	switch {
	case v.granted >= quorum:
		return Won
	case v.nodes-v.refused < quorum:
		return Lost
	}
	return Open
}

// Counts tells how many have granted, how many not.
func (v *Votes) Counts() (int, int) { return v.granted, v.refused }
