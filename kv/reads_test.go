package kv_test

import (
	"iter"
	"slices"
	"testing"

	"synod/api"
	"synod/kv"
)

// odd are keys in the order of their bytes, which isn't that of letters, of lengths or of runes.
func odd() []string {
	return []string{"\x00", "\x00\x00", "\x00a", " ", "10", "9", "A", "Z", "a", "a\x00", "aa", "ab", "b", "é", "\u20ac", "\U0001f600", "\xf8", "\xff", "\xff\x00", "\xff\xff"}
}

// filled is a store with these keys, each with itself twice as its value, put in another order.
func filled(t *testing.T, keys []string, step int) *kv.Store {
	t.Helper()
	var l []api.Command
	for i := range keys {
		k := keys[i*step%len(keys)]
		l = append(l, put(1, i+1, k, k+k))
	}
	return done(t, l...)
}

// gone is what a sequence yields, up to a number of keys.
func gone(s iter.Seq2[string, string], most int) string {
	text, n := "", 0
	for k, v := range s {
		text += k + "=" + v + " "
		if n++; n == most {
			break
		}
	}
	return text
}

func TestP11_3_Get(t *testing.T) {
	s := done(t, put(1, 1, "a", "x"), put(1, 2, "b", ""))
	was := all(s)
	for key, want := range map[string]api.Reply{
		"a": {Code: api.RDone, Value: "x"}, "b": {Code: api.RDone}, "c": {Code: api.RNone}, "": {Code: api.RNone},
		"A": {Code: api.RNone}, "a\x00": {Code: api.RNone}, "\xff": {Code: api.RNone}, long(65): {Code: api.RNone}, long(5000): {Code: api.RNone},
	} {
		for range 2 {
			is(t, s.Get(key), want)
		}
	}
	is(t, all(s), was)
	s.Do(remove(1, 3, "a"))
	is(t, s.Get("a"), api.Reply{Code: api.RNone})
}

func TestP11_3_Len(t *testing.T) {
	s := kv.New()
	for i, k := range names(api.MaxPairs) {
		is(t, s.Len(), i)
		s.Do(put(1, 2*i+1, k, ""))
		s.Do(put(1, 2*i+2, k, "again"))
	}
	for i, k := range names(api.MaxPairs) {
		is(t, s.Len(), api.MaxPairs-i)
		s.Do(remove(1, 1000+i, k))
	}
	is(t, s.Len(), 0)
	is(t, len(s.Keys()), 0)
}

func TestP11_3_KeysRise(t *testing.T) {
	for _, step := range []int{1, 3, 7, 19} {
		s := filled(t, odd(), step)
		for range 3 {
			is(t, s.Keys(), odd())
			var each []string
			for k, v := range s.Each() {
				each = append(each, k)
				is(t, v, k+k)
			}
			is(t, each, odd())
		}
		s.Do(remove(2, 1, "a"))
		is(t, slices.Contains(s.Keys(), "a"), false)
		is(t, len(s.Keys()), len(odd())-1)
	}
	is(t, crowded(t, api.MaxPairs).Keys(), names(api.MaxPairs))
}

// One sequence is gone over again and again: each time it has what there is then.
func TestP11_3_EachAgain(t *testing.T) {
	s := kv.New()
	each := s.Each()
	is(t, gone(each, 99), "")
	s.Do(put(1, 1, "b", "x"))
	s.Do(put(1, 2, "a", "y"))
	for range 3 {
		is(t, gone(each, 99), "a=y b=x ")
	}
	s.Do(put(1, 3, "b", "z"))
	s.Do(put(1, 4, "aa", ""))
	is(t, gone(each, 99), "a=y aa= b=z ")
	s.Do(remove(1, 5, "a"))
	is(t, gone(each, 99), "aa= b=z ")
	is(t, told(s), "aa= b=z; 1 5 1,")
}

func TestP11_3_EachEndedEarly(t *testing.T) {
	s := done(t, put(1, 1, "c", "3"), put(1, 2, "a", "1"), put(1, 3, "b", "2"))
	each := s.Each()
	for most, want := range []string{1: "a=1 ", 2: "a=1 b=2 ", 3: "a=1 b=2 c=3 "} {
		if most > 0 {
			is(t, gone(each, most), want)
		}
	}
	// The one that goes over it is asked no more when it has said no.
	for stop := 1; stop <= 3; stop++ {
		asked := 0
		each(func(k, v string) bool {
			asked++
			return asked < stop
		})
		is(t, asked, stop)
	}
	is(t, told(s), "a=1 b=2 c=3; 1 3 1,")
}

// What it is gone over is what there was when that began, whatever is done meanwhile.
func TestP11_3_EachWhileChanged(t *testing.T) {
	for _, x := range []struct {
		does []api.Command
		left string
	}{
		{nil, "a=1 b=2 c=3; 1 3 1,"},
		{[]api.Command{put(2, 1, "d", "4"), put(2, 2, "aa", "")}, "a=1 aa= b=2 c=3 d=4; 1 3 1, 2 2 1,"},
		{[]api.Command{remove(2, 1, "a"), remove(2, 2, "b"), remove(2, 3, "c")}, "; 1 3 1, 2 3 1,"},
		{[]api.Command{put(2, 1, "b", "x"), swap(2, 2, "c", "y", "3")}, "a=1 b=x c=y; 1 3 1, 2 2 1,"},
	} {
		for at := range 3 {
			s := done(t, put(1, 1, "c", "3"), put(1, 2, "a", "1"), put(1, 3, "b", "2"))
			text, n := "", 0
			for k, v := range s.Each() {
				text += k + v
				for _, c := range x.does {
					if n == at {
						s.Do(c)
					}
				}
				n++
			}
			is(t, text, "a1b2c3")
			is(t, told(s), x.left)
		}
	}
}

func TestP11_3_EachWithinAndPulled(t *testing.T) {
	s := done(t, put(1, 1, "b", "2"), put(1, 2, "a", "1"))
	each := s.Each()
	text := ""
	for k := range each {
		for _, v := range each {
			text += k + v
		}
	}
	is(t, text, "a1a2b1b2")
	next, stop := iter.Pull2(each)
	defer stop()
	is(t, say(next()), "a 1 true")
	s.Do(remove(1, 3, "b"))
	is(t, say(next()), "b 2 true")
	is(t, say(next()), "  false")
}

func TestP11_3_SessionsRise(t *testing.T) {
	clients := []int{1, 2, 3, 9, 10, 11, 99, 100, 1 << 31, 1 << 40, api.MaxIndex - 1, api.MaxIndex}
	for _, step := range []int{1, 5, 7, 11} {
		s := kv.New()
		for i := range clients {
			at := i * step % len(clients)
			does(t, s, remove(clients[at], at+1, "none"), api.RNone, "")
		}
		var want []kv.Session
		for i, c := range clients {
			want = append(want, kv.Session{c, i + 1, api.Reply{Code: api.RNone}})
		}
		for range 3 {
			is(t, s.Sessions(), want)
		}
	}
}
