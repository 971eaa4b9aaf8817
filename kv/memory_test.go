package kv_test

import (
	"bytes"
	"testing"

	"synod/api"
	"synod/kv"
)

// over writes a thing all over a list and its spare room.
func over[T any](l []T, x T) {
	for i := range l[:cap(l)] {
		l[:cap(l)][i] = x
	}
	_ = append(l, x, x, x)
}

// Whatever is written into an answer, or behind it, no store shows it, and no other answer.
func TestP11_5_AnswersAreNew(t *testing.T) {
	for n := range 12 {
		s := crowded(t, n)
		for i := range n {
			s.Do(remove(i+1, 99, "none"))
		}
		was := all(s)
		copied := s.Copy()
		keys, sessions, snapshot := s.Keys(), s.Sessions(), s.Snapshot()
		kept := say(keys, sessions, snapshot)
		over(s.Keys(), "!")
		over(s.Sessions(), kv.Session{77, 77, api.Reply{Code: 77, Value: "!"}})
		over(s.Snapshot(), '!')
		is(t, say(keys, sessions, snapshot), kept)
		is(t, all(s), was)
		over(keys, "!")
		over(sessions, kv.Session{})
		over(snapshot, 0)
		is(t, all(s), was)
		is(t, all(copied), was)
		does(t, s, put(50, 1, "z", ""), api.RDone, "")
		is(t, all(copied), was)
	}
}

// What is done later changes nothing of an answer.
func TestP11_5_AnswersStay(t *testing.T) {
	s := done(t, put(1, 1, "a", "x"), put(2, 1, "b", "y"))
	keys, sessions, snapshot, got := s.Keys(), s.Sessions(), s.Snapshot(), s.Get("a")
	was := say(keys, sessions, snapshot, got)
	s.Do(put(1, 2, "a", "z"))
	s.Do(remove(2, 2, "b"))
	s.Do(put(3, 1, "c", ""))
	is(t, say(keys, sessions, snapshot, got), was)
}

// The bytes of a snapshot are neither changed nor kept, and what lies behind them isn't read.
func TestP11_5_HandedInStays(t *testing.T) {
	for _, whole := range [][]byte{
		text(2, "a", "x", "bcd", "yz", 2, 1, 1, api.RDone, "", 4, 9, api.ROther, "other"),
		text(0, 0),
		text(1, ""),
		text(0, 0, 0),
		text(2, "a", "x"),
	} {
		room := append(append([]byte(nil), whole...), text(1, "zz", "zz")...)
		was := append([]byte(nil), room...)
		b := room[:len(whole)]
		s, e := kv.Restore(b)
		is(t, bytes.Equal(room, was), true)
		is(t, e, judged(whole))
		if s == nil {
			continue
		}
		told := all(s)
		over(room, '!')
		is(t, all(s), told)
		is(t, bytes.Equal(s.Snapshot(), whole), true)
		over(s.Snapshot(), 0)
		is(t, all(s), told)
	}
}

// Stores that are made of the same bytes know nothing of one another.
func TestP11_5_StoresApart(t *testing.T) {
	b := text(1, "a", "x", 1, 1, 1, api.RDone, "")
	one, _ := kv.Restore(b)
	two, _ := kv.Restore(b)
	was := all(two)
	does(t, one, put(1, 2, "a", "y"), api.RDone, "")
	does(t, one, put(2, 1, "b", "y"), api.RDone, "")
	is(t, all(two), was)
	is(t, bytes.Equal(two.Snapshot(), b), true)
}
