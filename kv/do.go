package kv

import (
	"synod/api"
	"synod/codec"
)

// Do does a command.
func (s *Store) Do(c api.Command) (api.Reply, api.Errno) {
	if err := (codec.Commands{}).Check(c); err != api.OK {
		return api.Reply{}, err
	}
	if reply, ok := s.settled(c.Client, c.Seq); ok {
		return reply, api.OK
	}
	reply := s.operations()[c.Op](c)
	s.sessions[c.Client] = Session{Client: c.Client, Seq: c.Seq, Reply: reply}
	return reply, api.OK
}

// settled is the reply of a command that isn't to be done, whatever its operation is; false, if it is to be done.
func (s *Store) settled(client, seq int) (api.Reply, bool) {
	last, ok := s.sessions[client]
	switch {
	case !ok && len(s.sessions) >= api.MaxSession:
		return api.Reply{Code: api.RFull}, true
	case !ok, seq > last.Seq:
		return api.Reply{}, false
	case seq == last.Seq:
		return last.Reply, true
	}
	return api.Reply{Code: api.ROld}, true
}

// operations makes what an operation does, by its number.
func (s *Store) operations() map[int]func(c api.Command) api.Reply {
	return map[int]func(c api.Command) api.Reply{
		api.OpPut:    s.put,
		api.OpDelete: s.remove,
		api.OpSwap:   s.swap,
	}
}

func (s *Store) put(c api.Command) api.Reply {
	if _, ok := s.pairs[c.Key]; !ok && len(s.pairs) >= api.MaxPairs {
		return api.Reply{Code: api.RFull}
	}
	return s.set(c.Key, c.Value)
}

func (s *Store) remove(c api.Command) api.Reply {
	if _, ok := s.pairs[c.Key]; !ok {
		return api.Reply{Code: api.RNone}
	}
	delete(s.pairs, c.Key)
	return api.Reply{Code: api.RDone}
}

func (s *Store) swap(c api.Command) api.Reply {
	p, ok := s.pairs[c.Key]
	switch {
	case !ok:
		return api.Reply{Code: api.RNone}
	case p.value != c.Old:
		return api.Reply{Code: api.ROther, Value: p.value}
	}
	return s.set(c.Key, c.Value)
}

// set is asked for keys that are there, or have room.
func (s *Store) set(key, value string) api.Reply {
	s.pairs[key] = pair{key: key, value: value}
	return api.Reply{Code: api.RDone}
}
