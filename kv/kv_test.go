package kv_test

import (
	"fmt"
	"strconv"
	"strings"
	"testing"

	"synod/api"
	"synod/kv"
)

// say is all of a list of answers, as one text.
func say(l ...any) string { return strings.TrimSuffix(fmt.Sprintln(l...), "\n") }

// is holds an answer against the one that the document asks.
func is(t *testing.T, have, want any) {
	t.Helper()
	if say(have) != say(want) {
		t.Errorf("have %v; want %v", have, want)
	}
}

func put(client, seq int, key, value string) api.Command {
	return api.Command{Op: api.OpPut, Client: client, Seq: seq, Key: key, Value: value}
}

func remove(client, seq int, key string) api.Command {
	return api.Command{Op: api.OpDelete, Client: client, Seq: seq, Key: key}
}

func swap(client, seq int, key, value, old string) api.Command {
	return api.Command{Op: api.OpSwap, Client: client, Seq: seq, Key: key, Value: value, Old: old}
}

// done is a store that did these commands.
func done(t *testing.T, l ...api.Command) *kv.Store {
	t.Helper()
	s := kv.New()
	for _, c := range l {
		if r, e := s.Do(c); e != api.OK || r.Code != api.RDone {
			t.Fatalf("%v is %v, %d", c, r, e)
		}
	}
	return s
}

// does holds a command's reply against its code and value.
func does(t *testing.T, s *kv.Store, c api.Command, code int, value string) {
	t.Helper()
	r, e := s.Do(c)
	if e != api.OK || r != (api.Reply{Code: code, Value: value}) {
		t.Errorf("%v is %v, %d; want %d %q", c, r, e, code, value)
	}
}

// told is all that a store tells, but for its snapshot: each of its calls has to say the same.
func told(s *kv.Store) string {
	var each, got []string
	for k, v := range s.Each() {
		each = append(each, k+"="+v)
	}
	keys := s.Keys()
	for _, k := range keys {
		r := s.Get(k)
		got = append(got, k+"="+r.Value)
		if r.Code != api.RDone {
			return say(k, "is among the keys, and Get of it is", r.Code)
		}
	}
	if s.Len() != len(keys) || say(each) != say(got) {
		return say("out of step:", s.Len(), each, got)
	}
	text := strings.Join(each, " ") + ";"
	for _, x := range s.Sessions() {
		text += say("", x.Client, x.Seq, x.Reply.Code) + x.Reply.Value + ","
	}
	return text
}

// all is all that a store tells.
func all(s *kv.Store) string { return told(s) + fmt.Sprintf(" %x", s.Snapshot()) }

// names are n keys, rising, and as long as keys may be.
func names(n int) []string {
	var l []string
	for i := range n {
		l = append(l, fmt.Sprintf("%0*d", api.MaxKey, i))
	}
	return l
}

// crowded is a store with n keys of the value v, by client 1's Seqs 1 to n.
func crowded(t *testing.T, n int) *kv.Store {
	t.Helper()
	var l []api.Command
	for i, k := range names(n) {
		l = append(l, put(1, i+1, k, "v"))
	}
	return done(t, l...)
}

// visited is a store with the sessions of the clients 1 to n, Seq 10 each, and the key k of the value n.
func visited(t *testing.T, n int) *kv.Store {
	t.Helper()
	var l []api.Command
	for i := range n {
		l = append(l, put(i+1, 10, "k", strconv.Itoa(i+1)))
	}
	return done(t, l...)
}

func TestP11_1_New(t *testing.T) {
	s, other := kv.New(), kv.New()
	for range 2 {
		is(t, s.Len(), 0)
		is(t, len(s.Keys()), 0)
		is(t, len(s.Sessions()), 0)
		is(t, s.Get("a"), api.Reply{Code: api.RNone})
		is(t, all(s), "; 0000")
		for k, v := range s.Each() {
			t.Errorf("%q has %q", k, v)
		}
		does(t, other, put(1, 1, "a", "x"), api.RDone, "")
	}
	is(t, told(other), "a=x; 1 1 1,")
}

// The chapter's table, line by line.
func TestP11_2_Examples(t *testing.T) {
	s := kv.New()
	does(t, s, put(1, 1, "a", "x"), api.RDone, "")
	does(t, s, put(1, 1, "a", "x"), api.RDone, "")
	does(t, s, put(1, 1, "a", "y"), api.RDone, "")
	is(t, s.Get("a"), api.Reply{Code: api.RDone, Value: "x"})
	does(t, s, swap(2, 1, "a", "z", "y"), api.ROther, "x")
	does(t, s, swap(2, 2, "a", "z", "x"), api.RDone, "")
	does(t, s, swap(2, 1, "a", "z", "z"), api.ROld, "")
	does(t, s, remove(1, 5, "b"), api.RNone, "")
	does(t, s, remove(1, 6, "a"), api.RDone, "")
	does(t, s, put(1, 2, "a", "q"), api.ROld, "")
	is(t, s.Get("a"), api.Reply{Code: api.RNone})
	refuses(t, s, api.Command{Op: api.OpGet, Client: 1, Seq: 7, Key: "a"}, api.ErrKind)
	refuses(t, s, put(0, 1, "a", "x"), api.ErrRange)
	is(t, len(s.Keys()), 0)
	is(t, s.Sessions(), []kv.Session{{1, 6, api.Reply{Code: api.RDone}}, {2, 2, api.Reply{Code: api.RDone}}})
	is(t, fmt.Sprintf("% x", s.Snapshot()), "00 02 01 06 01 00 02 02 01 00")
	restores(t, nil, api.ErrShort)
	restores(t, []byte{1, 0, 0, 0}, api.ErrForm)
}
