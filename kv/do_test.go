package kv_test

import (
	"math"
	"strings"
	"testing"

	"synod/api"
	"synod/codec"
	"synod/kv"
)

// refuses holds a command's error against the one that it is to have: nothing is done then.
func refuses(t *testing.T, s *kv.Store, c api.Command, want api.Errno) {
	t.Helper()
	was := all(s)
	for range 2 {
		if r, e := s.Do(c); r != (api.Reply{}) || e != want {
			t.Errorf("%v is %v, %d; want %d", c, r, e, want)
		}
	}
	is(t, all(s), was)
}

// unchanged holds a command's reply, which comes again and again, and leaves the store as it is.
func unchanged(t *testing.T, s *kv.Store, c api.Command, code int, value string) {
	t.Helper()
	was := all(s)
	for range 2 {
		does(t, s, c, code, value)
		is(t, all(s), was)
	}
}

func long(n int) string { return strings.Repeat("k", n) }

func TestP11_2_Put(t *testing.T) {
	s := kv.New()
	does(t, s, put(3, 1, "a", "x"), api.RDone, "")
	is(t, told(s), "a=x; 3 1 1,")
	does(t, s, put(3, 2, "b", ""), api.RDone, "")
	is(t, told(s), "a=x b=; 3 2 1,")
	does(t, s, put(3, 7, "a", "y"), api.RDone, "")
	is(t, told(s), "a=y b=; 3 7 1,")
	does(t, s, put(2, 1, "a", ""), api.RDone, "")
	is(t, told(s), "a= b=; 2 1 1, 3 7 1,")
}

func TestP11_2_Delete(t *testing.T) {
	s := done(t, put(1, 1, "a", "x"), put(1, 2, "b", ""))
	does(t, s, remove(1, 3, "c"), api.RNone, "")
	is(t, told(s), "a=x b=; 1 3 2,")
	does(t, s, remove(1, 4, "b"), api.RDone, "")
	is(t, told(s), "a=x; 1 4 1,")
	does(t, s, remove(1, 5, "b"), api.RNone, "")
	is(t, told(s), "a=x; 1 5 2,")
	does(t, s, remove(2, 1, "a"), api.RDone, "")
	is(t, told(s), "; 1 5 2, 2 1 1,")
}

func TestP11_2_Swap(t *testing.T) {
	s := done(t, put(1, 1, "a", "x"), put(1, 2, "b", ""))
	does(t, s, swap(1, 3, "c", "y", ""), api.RNone, "")
	is(t, told(s), "a=x b=; 1 3 2,")
	does(t, s, swap(1, 4, "a", "y", "z"), api.ROther, "x")
	is(t, told(s), "a=x b=; 1 4 3x,")
	does(t, s, swap(1, 5, "a", "y", ""), api.ROther, "x")
	is(t, told(s), "a=x b=; 1 5 3x,")
	does(t, s, swap(1, 6, "a", "y", "x"), api.RDone, "")
	is(t, told(s), "a=y b=; 1 6 1,")
	does(t, s, swap(1, 7, "b", "y", "x"), api.ROther, "") // the other value is the empty one
	is(t, told(s), "a=y b=; 1 7 3,")
	does(t, s, swap(1, 8, "b", "z", ""), api.RDone, "")
	does(t, s, swap(1, 9, "a", "", "y"), api.RDone, "")
	is(t, told(s), "a= b=z; 1 9 1,")
	does(t, s, swap(1, 10, "b", "z", "z"), api.RDone, "") // the same value once more
	does(t, s, swap(1, 11, "b", "b", "zz"), api.ROther, "z")
	is(t, told(s), "a= b=z; 1 11 3z,")
}

// A session's own Seq gets the session's reply, whatever the command is.
func TestP11_2_SessionsReply(t *testing.T) {
	for _, x := range []struct {
		last  api.Command
		code  int
		value string
	}{
		{put(2, 5, "a", "x"), api.RDone, ""},
		{remove(2, 5, "k"), api.RDone, ""},
		{swap(2, 5, "k", "x", "v"), api.RDone, ""},
		{remove(2, 5, "none"), api.RNone, ""},
		{swap(2, 5, "none", "x", ""), api.RNone, ""},
		{swap(2, 5, "k", "x", "w"), api.ROther, "v"},
	} {
		s := done(t, put(1, 1, "k", "v"))
		does(t, s, x.last, x.code, x.value)
		for _, c := range []api.Command{x.last, put(2, 5, "k", "other"), put(2, 5, "z", ""), remove(2, 5, "k"), remove(2, 5, "q"), swap(2, 5, "k", "u", "v"), swap(2, 5, "q", "u", "v")} {
			unchanged(t, s, c, x.code, x.value)
		}
		// What others do to the key changes nothing of it.
		does(t, s, put(1, 2, "k", "later"), api.RDone, "")
		does(t, s, put(1, 3, "none", "later"), api.RDone, "")
		unchanged(t, s, x.last, x.code, x.value)
	}
}

func TestP11_2_BelowTheSessionsSeq(t *testing.T) {
	s := done(t, put(1, 1, "k", "v"), put(2, 9, "k", "w"))
	for seq := 1; seq < 9; seq++ {
		for _, c := range []api.Command{put(2, seq, "k", "x"), put(2, seq, "q", "x"), remove(2, seq, "k"), remove(2, seq, "q"), swap(2, seq, "k", "x", "w"), swap(2, seq, "k", "x", "u")} {
			unchanged(t, s, c, api.ROld, "")
		}
	}
	does(t, s, put(2, 10, "k", "x"), api.RDone, "")
	unchanged(t, s, put(2, 9, "k", "w"), api.ROld, "")
	is(t, told(s), "k=x; 1 1 1, 2 10 1,")
}

// A session that got a reply by which nothing was changed is one all the same.
func TestP11_2_SessionOfNothingDone(t *testing.T) {
	for _, c := range []api.Command{remove(2, 5, "none"), swap(2, 5, "none", "x", ""), swap(2, 5, "k", "x", "w")} {
		s := done(t, put(1, 1, "k", "v"))
		s.Do(c)
		unchanged(t, s, put(2, 4, "k", "x"), api.ROld, "")
		is(t, s.Get("k").Value, "v")
		does(t, s, put(2, 6, "k", "x"), api.RDone, "")
	}
}

func TestP11_2_NoRoomForAKey(t *testing.T) {
	s := crowded(t, api.MaxPairs)
	k := names(api.MaxPairs)
	is(t, s.Len(), api.MaxPairs)
	// The RFull of a put is its session's, also where there was none.
	does(t, s, put(2, 3, "new", "x"), api.RFull, "")
	is(t, s.Len(), api.MaxPairs)
	is(t, s.Get("new").Code, api.RNone)
	is(t, s.Sessions()[1], kv.Session{2, 3, api.Reply{Code: api.RFull}})
	unchanged(t, s, put(2, 2, k[0], "x"), api.ROld, "")
	unchanged(t, s, put(2, 3, k[0], "x"), api.RFull, "")
	// Keys that are there need no room.
	does(t, s, put(2, 4, k[7], "y"), api.RDone, "")
	does(t, s, swap(2, 5, k[8], "y", "v"), api.RDone, "")
	does(t, s, swap(2, 6, "new", "y", "v"), api.RNone, "")
	does(t, s, remove(2, 7, "new"), api.RNone, "")
	does(t, s, put(2, 8, "new", "x"), api.RFull, "")
	// Room that is made later doesn't change what that Seq got.
	does(t, s, remove(1, 999, k[0]), api.RDone, "")
	unchanged(t, s, put(2, 8, "new", "x"), api.RFull, "")
	does(t, s, put(2, 9, "new", "x"), api.RDone, "")
	is(t, s.Len(), api.MaxPairs)
	does(t, s, put(2, 10, k[0], "x"), api.RFull, "")
	is(t, s.Get(k[7]).Value+s.Get(k[8]).Value+s.Get("new").Value, "yyx")
}

func TestP11_2_TheLastRoom(t *testing.T) {
	s := crowded(t, api.MaxPairs-1)
	does(t, s, put(2, 1, "new", "x"), api.RDone, "")
	does(t, s, put(2, 2, "more", "x"), api.RFull, "")
	is(t, s.Len(), api.MaxPairs)
	s = visited(t, api.MaxSession-1)
	does(t, s, remove(99, 1, "none"), api.RNone, "")
	unchanged(t, s, remove(98, 1, "none"), api.RFull, "")
	is(t, len(s.Sessions()), api.MaxSession)
}

func TestP11_2_NoRoomForASession(t *testing.T) {
	s := visited(t, api.MaxSession)
	for _, c := range []api.Command{put(99, 1, "k", "x"), put(99, 1, "new", "x"), remove(99, 1, "k"), remove(99, 1, "none"), swap(99, 1, "k", "x", "32"), swap(99, 1, "k", "x", "y"), swap(99, 1, "none", "x", "y"), put(api.MaxIndex, api.MaxIndex, "k", "x")} {
		unchanged(t, s, c, api.RFull, "")
	}
	is(t, s.Get("k").Value, "32")
	// Those that have one go on.
	unchanged(t, s, put(7, 9, "k", "x"), api.ROld, "")
	unchanged(t, s, put(7, 10, "k", "x"), api.RDone, "")
	does(t, s, put(7, 11, "k", "x"), api.RDone, "")
	does(t, s, remove(32, 11, "k"), api.RDone, "")
	// No session ever goes: it stays full.
	unchanged(t, s, put(99, 2, "k", "x"), api.RFull, "")
	is(t, len(s.Sessions()), api.MaxSession)
}

// For want of a session comes ahead of what the key would have got.
func TestP11_2_NoRoomAtAll(t *testing.T) {
	s := visited(t, api.MaxSession)
	for i, k := range names(api.MaxPairs - 1) {
		does(t, s, put(1, 100+i, k, ""), api.RDone, "")
	}
	unchanged(t, s, put(99, 1, "new", "x"), api.RFull, "")
	is(t, len(s.Sessions()), api.MaxSession)
	unchanged(t, s, remove(99, 1, "none"), api.RFull, "")
	does(t, s, put(2, 11, "new", "x"), api.RFull, "")
	is(t, s.Sessions()[1], kv.Session{2, 11, api.Reply{Code: api.RFull}})
}

// wrongs are commands that may not be, each with the error that comes first.
func wrongs() map[api.Errno][]api.Command {
	return map[api.Errno][]api.Command{
		api.ErrKind: {
			{}, {Op: api.OpGet, Client: 1, Seq: 1, Key: "a"}, {Op: 5, Client: 1, Seq: 1, Key: "a"}, {Op: -1, Client: 1, Seq: 1, Key: "a"},
			{Op: math.MaxInt, Client: 0, Seq: -1, Key: long(99)}, {Op: math.MinInt, Client: 1, Seq: 1, Key: "a"}, {Op: api.OpGet},
		},
		api.ErrRange: {
			put(0, 1, "a", "x"), put(-1, 1, "a", "x"), put(api.MaxIndex+1, 1, "a", "x"), put(math.MinInt, 1, "a", "x"), put(math.MaxInt, 1, "a", "x"),
			put(1, 0, "a", "x"), put(1, -1, "a", "x"), put(1, api.MaxIndex+1, "a", "x"), put(1, math.MinInt, "a", "x"), put(1, math.MaxInt, "a", "x"),
			remove(0, 1, "k"), swap(1, 0, "k", "x", "v"), put(0, 1, long(65), ""), put(1, 0, "", long(1025)), remove(0, 0, ""),
		},
		api.ErrLong: {
			put(1, 1, long(65), "x"), put(1, 1, "a", long(1025)), swap(1, 1, "k", "x", long(1025)), swap(1, 1, "k", long(1025), "v"), remove(1, 1, long(65)),
			put(1, 1, "", long(1025)), {Op: api.OpDelete, Client: 1, Seq: 1, Key: "k", Value: long(1025)}, {Op: api.OpPut, Client: 1, Seq: 1, Key: "k", Old: long(1025)},
		},
		api.ErrForm: {
			put(1, 1, "", "x"), remove(1, 1, ""), swap(1, 1, "", "", ""), {Op: api.OpDelete, Client: 1, Seq: 1, Key: "k", Value: "x"},
			{Op: api.OpDelete, Client: 1, Seq: 1, Key: "k", Old: "v"}, {Op: api.OpPut, Client: 1, Seq: 1, Key: "k", Value: "x", Old: "v"},
		},
	}
}

// A command that may not be is told ahead of all else: of a session's reply, of an old Seq, of room that is wanting.
func TestP11_2_WrongCommands(t *testing.T) {
	s := done(t, put(1, 1, "k", "v"), put(2, 9, "a", "x"))
	full := visited(t, api.MaxSession)
	for e, l := range wrongs() {
		for _, c := range l {
			is(t, codec.Commands{}.Check(c), e)
			refuses(t, s, c, e)
			refuses(t, full, c, e)
			refuses(t, kv.New(), c, e)
			if c.Client == 1 {
				c.Client = 2
				refuses(t, s, c, e)
				c.Client = 999
				refuses(t, full, c, e)
			}
		}
	}
}

// Numbers and texts at the ends of what may be.
func TestP11_2_Ends(t *testing.T) {
	s := kv.New()
	does(t, s, put(api.MaxIndex, api.MaxIndex-1, long(api.MaxKey), long(api.MaxValue)), api.RDone, "")
	does(t, s, swap(1, 1, long(api.MaxKey), "", ""), api.ROther, long(api.MaxValue))
	unchanged(t, s, swap(1, 1, long(api.MaxKey), "", ""), api.ROther, long(api.MaxValue))
	does(t, s, swap(1, api.MaxIndex, long(api.MaxKey), "x", long(api.MaxValue)), api.RDone, "")
	unchanged(t, s, put(1, api.MaxIndex, "k", "x"), api.RDone, "")
	unchanged(t, s, put(1, api.MaxIndex-1, "k", "x"), api.ROld, "")
	does(t, s, put(api.MaxIndex, api.MaxIndex, "\x00", "\xff\x00"), api.RDone, "")
	is(t, s.Get("\x00"), api.Reply{Code: api.RDone, Value: "\xff\x00"})
	is(t, s.Get(long(api.MaxKey)), api.Reply{Code: api.RDone, Value: "x"})
	is(t, s.Sessions(), []kv.Session{{1, api.MaxIndex, api.Reply{Code: api.RDone}}, {api.MaxIndex, api.MaxIndex, api.Reply{Code: api.RDone}}})
}
