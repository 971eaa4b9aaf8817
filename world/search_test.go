package world_test

import "synod/api"

// state is which operations were done, and what the key is then.
type state struct {
	done  uint64
	there bool
	value string
}

// search looks for an order of operations.
type search struct {
	ops    []api.Op
	failed map[state]int
}

// from tells whether the operations that are left may be done from a state on.
func (s search) from(now state) bool {
	if s.failed[now] > 0 {
		return false
	}
	first := 1 << 62 // the first reply of one that is left
	for i, x := range s.ops {
		if now.done>>i&1 == 0 && x.Back > 0 {
			first = min(first, x.Back)
		}
	}
	if first == 1<<62 {
		return true
	}
	for i, x := range s.ops {
		if now.done>>i&1 == 1 || x.Call > first {
			continue
		}
		next, r := effect(now, x)
		next.done |= 1 << i
		if (x.Back == 0 || r == x.Reply) && s.from(next) {
			return true
		}
	}
	s.failed[now] = 1
	return false
}

// effect is what an operation does to a key.
func effect(s state, x api.Op) (state, api.Reply) {
	was := api.Reply{Code: api.RNone}
	if s.there {
		was = api.Reply{Code: api.RDone, Value: s.value}
	}
	switch {
	case x.Kind == api.OpGet:
		return s, was
	case x.Kind == api.OpPut:
		return state{s.done, true, x.Value}, api.Reply{Code: api.RDone}
	case !s.there:
		return s, was
	case x.Kind == api.OpDelete:
		return state{s.done, false, ""}, api.Reply{Code: api.RDone}
	case s.value != x.Old:
		return s, api.Reply{Code: api.ROther, Value: s.value}
	}
	return state{s.done, true, x.Value}, api.Reply{Code: api.RDone}
}
