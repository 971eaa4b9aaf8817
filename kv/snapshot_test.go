package kv_test

import (
	"bytes"
	"fmt"
	"math/rand/v2"
	"slices"
	"testing"

	"synod/api"
	"synod/kv"
	"synod/wire"
)

// restores holds the error of a restore against the one that it is to have. What is taken is its own snapshot.
func restores(t *testing.T, b []byte, want api.Errno) {
	t.Helper()
	s, e := kv.Restore(b)
	switch {
	case e != want || (s == nil) != (e != api.OK):
		t.Errorf("Restore(% x) is %d; want %d", b, e, want)
	case s != nil && !bytes.Equal(s.Snapshot(), b):
		t.Errorf("Restore(% x) has the snapshot % x", b, s.Snapshot())
	}
}

// text is bytes as a writer puts them: what stands for a number, or for the bytes of a text.
func text(parts ...any) []byte {
	w := wire.NewWriter()
	for _, x := range parts {
		switch x := x.(type) {
		case int:
			w.Int(x)
		case string:
			w.Text(x, len(x))
		}
	}
	b, _ := w.Done()
	return b
}

func TestP11_4_Snapshot(t *testing.T) {
	s := kv.New()
	is(t, s.Snapshot(), []byte{0, 0})
	s.Do(put(300, 2, "b", "xy"))
	s.Do(put(5, 1, "a", ""))
	s.Do(swap(7, 200, "b", "q", "z"))
	s.Do(remove(6, 1, "none"))
	for range 2 {
		is(t, fmt.Sprintf("% x", s.Snapshot()), "02 01 61 00 01 62 02 78 79 04 05 01 01 00 06 01 02 00 07 c8 01 03 02 78 79 ac 02 02 01 00")
	}
	s = crowded(t, api.MaxPairs)
	s.Do(put(2, 1, "new", "x"))
	parts := []any{api.MaxPairs}
	for _, k := range names(api.MaxPairs) {
		parts = append(parts, k, "v")
	}
	is(t, s.Snapshot(), text(append(parts, 2, 1, api.MaxPairs, api.RDone, "", 2, 1, api.RFull, "")...))
}

// The greatest store that may be: it is restored, too, and goes into a snapshot's data.
func TestP11_4_Greatest(t *testing.T) {
	s := kv.New()
	for i, k := range names(api.MaxPairs) {
		does(t, s, put(api.MaxIndex, i+1, k, long(api.MaxValue)), api.RDone, "")
	}
	for i := range api.MaxSession - 1 {
		does(t, s, swap(api.MaxIndex-1-i, api.MaxIndex, names(1)[0], "x", ""), api.ROther, long(api.MaxValue))
	}
	b := s.Snapshot()
	if len(b) < api.MaxPairs*(api.MaxKey+api.MaxValue) || len(b) > api.MaxSnap {
		t.Errorf("it has %d bytes", len(b))
	}
	restores(t, b, api.OK)
	r, _ := kv.Restore(b)
	is(t, all(r), all(s))
	unchanged(t, r, put(1, 1, "new", ""), api.RFull, "")
}

func TestP11_4_Restore(t *testing.T) {
	for _, parts := range [][]any{
		{0, 0},
		{1, "a", "", 0},
		{3, "a", "x", "a\x00", "", "b", "a", 0},
		{1, long(api.MaxKey), long(api.MaxValue), 0},
		{2, "\x00", "", "\xff", "", 0},
		{0, 1, 1, 1, api.RDone, ""},
		{0, 1, api.MaxIndex, api.MaxIndex, api.RNone, ""},
		{0, 1, 1, 1, api.ROther, long(api.MaxValue)},
		{0, 1, 1, 1, api.ROther, ""},
		{0, 1, 1, 1, api.RFull, ""},
		{1, "a", "x", 3, 1, 9, api.RDone, "", 2, 1, api.ROther, "y", 300, 2, api.RNone, ""},
	} {
		restores(t, text(parts...), api.OK)
	}
	s, _ := kv.Restore(text(2, "a", "x", "b", "", 2, 4, 9, api.ROther, "y", 300, 2, api.RFull, ""))
	is(t, told(s), "a=x b=; 4 9 3y, 300 2 5,")
	unchanged(t, s, put(4, 9, "a", "z"), api.ROther, "y")
	unchanged(t, s, put(4, 8, "a", "z"), api.ROld, "")
	does(t, s, put(4, 10, "a", "z"), api.RDone, "")
	is(t, told(s), "a=z b=; 4 10 1, 300 2 5,")
}

// Each of the faults, met where it stands: what comes behind it, or is wanting there, changes nothing.
func TestP11_4_Faults(t *testing.T) {
	for _, x := range []struct {
		e     api.Errno
		parts []any
	}{
		{api.ErrMany, []any{api.MaxPairs + 1}},
		{api.ErrMany, []any{api.MaxIndex}},
		{api.ErrMany, []any{0, api.MaxSession + 1}},
		{api.ErrMany, []any{0, api.MaxIndex}},
		{api.ErrMany, []any{1, "a", "", api.MaxSession + 1}},
		{api.ErrForm, []any{1, ""}},
		{api.ErrForm, []any{2, "a", "", ""}},
		{api.ErrForm, []any{2, "a", "x", "a"}},
		{api.ErrForm, []any{2, "b", "x", "a"}},
		{api.ErrForm, []any{2, "ab", "x", "a"}},
		{api.ErrForm, []any{2, "\xff", "x", "a"}},
		{api.ErrForm, []any{3, "a", "x", "c", "", "b"}},
		{api.ErrForm, []any{0, 1, 0}},
		{api.ErrForm, []any{0, 1, 1, 0}},
		{api.ErrForm, []any{0, 1, 1, 1, 0}},
		{api.ErrForm, []any{0, 1, 1, 1, api.ROld}},
		{api.ErrForm, []any{0, 1, 1, 1, api.RLead}},
		{api.ErrForm, []any{0, 1, 1, 1, api.RBusy}},
		{api.ErrForm, []any{0, 1, 1, 1, api.RLost}},
		{api.ErrForm, []any{0, 1, 1, 1, api.RLimit}},
		{api.ErrForm, []any{0, 1, 1, 1, api.RDown}},
		{api.ErrForm, []any{0, 1, 1, 1, 11}},
		{api.ErrForm, []any{0, 1, 1, 1, api.MaxIndex}},
		{api.ErrForm, []any{0, 1, 1, 1, api.RDone, "x"}},
		{api.ErrForm, []any{0, 1, 1, 1, api.RNone, "x"}},
		{api.ErrForm, []any{0, 1, 1, 1, api.RFull, long(api.MaxValue)}},
		{api.ErrForm, []any{0, 2, 1, 1, api.RDone, "", 1}},
		{api.ErrForm, []any{0, 2, 300, 1, api.RDone, "", 2}},
		{api.ErrForm, []any{0, 2, 1, 1, api.RDone, "", 0}},
		{api.ErrLong, []any{1, long(api.MaxKey + 1)}},
		{api.ErrLong, []any{2, "a", "", long(api.MaxKey + 1)}},
		{api.ErrLong, []any{1, "a", long(api.MaxValue + 1)}},
		{api.ErrLong, []any{0, 1, 1, 1, api.ROther, long(api.MaxValue + 1)}},
		{api.ErrLong, []any{0, 1, 1, 1, api.RDone, long(api.MaxValue + 1)}},
		{api.ErrLong, []any{0, 0, 0}},
		{api.ErrLong, []any{1, "a", "x", 1, 1, 1, api.RDone, "", 1}},
	} {
		b := text(x.parts...)
		restores(t, b, x.e)
		for _, more := range [][]byte{{0}, {1, 2, 3, 4, 5, 6, 7}, {0x80}, {0x80, 0}, {0xff, 0xff, 0xff}, text(long(2000))} {
			restores(t, append(b[:len(b):len(b)], more...), x.e)
		}
	}
}

// Numbers that are none, at each place where one stands.
func TestP11_4_FaultyNumbers(t *testing.T) {
	for _, ahead := range [][]byte{
		nil, text(1), text(1, "a"), text(1, "a", "x"), text(2, "a", "x"), text(0), text(0, 1), text(0, 1, 1), text(0, 1, 1, 1), text(0, 1, 1, 1, api.ROther),
		text(0, 2, 1, 1, api.RDone, ""),
	} {
		for _, x := range []struct {
			b []byte
			e api.Errno
		}{
			{nil, api.ErrShort}, {[]byte{0x80}, api.ErrShort}, {bytes.Repeat([]byte{0xff}, 8), api.ErrShort}, {[]byte{0x80, 0}, api.ErrForm}, {[]byte{0x81, 0x80, 0}, api.ErrForm},
			{bytes.Repeat([]byte{0x80}, 9), api.ErrForm}, {append(bytes.Repeat([]byte{0x80}, 8), 0x41), api.ErrRange}, {append(bytes.Repeat([]byte{0xff}, 8), 0x7f), api.ErrRange},
		} {
			restores(t, append(ahead[:len(ahead):len(ahead)], x.b...), x.e)
		}
	}
}

// As many as there may be, and one more.
func TestP11_4_HowMany(t *testing.T) {
	for _, n := range []int{api.MaxPairs - 1, api.MaxPairs, api.MaxPairs + 1} {
		parts := []any{n}
		for _, k := range names(n) {
			parts = append(parts, k, "")
		}
		restores(t, text(append(parts, 0)...), unless(n <= api.MaxPairs, api.ErrMany))
	}
	for _, n := range []int{api.MaxSession - 1, api.MaxSession, api.MaxSession + 1} {
		parts := []any{0, n}
		for i := range n {
			parts = append(parts, i+1, 1, api.RNone, "")
		}
		restores(t, text(parts...), unless(n <= api.MaxSession, api.ErrMany))
	}
}

// Every front of a snapshot is too short, and every one with a byte behind it too long.
func TestP11_4_Fronts(t *testing.T) {
	s := done(t, put(1, 1, "b", "xy"), put(300, 200, "abc", ""), put(2, 1, "a", long(200)))
	s.Do(swap(3, 1, "b", "", "q"))
	b := s.Snapshot()
	restores(t, b, api.OK)
	for n := range len(b) {
		restores(t, b[:n], api.ErrShort)
	}
	for c := range 256 {
		restores(t, append(b[:len(b):len(b)], byte(c)), api.ErrLong)
	}
}

// judge says once more, by the bytes alone, which error a restore has: it goes by places, and has no reader.
type judge struct {
	b  []byte
	at int
}

func (j *judge) number(judged func(n int) api.Errno) (int, api.Errno) {
	n, size, e := wire.Int(j.b, j.at)
	if e != api.OK {
		return 0, e
	}
	j.at += size
	return n, judged(n)
}

func (j *judge) text(most int) (string, api.Errno) {
	n, e := j.number(func(n int) api.Errno { return unless(n <= most, api.ErrLong) })
	if e == api.OK && n > len(j.b)-j.at {
		e = api.ErrShort
	}
	if e != api.OK {
		return "", e
	}
	j.at += n
	return string(j.b[j.at-n : j.at]), api.OK
}

// unless is an error, unless something holds.
func unless(holds bool, e api.Errno) api.Errno {
	if holds {
		return api.OK
	}
	return e
}

func formUnless(holds bool) api.Errno { return unless(holds, api.ErrForm) }

func manyAbove(most int) func(int) api.Errno {
	return func(n int) api.Errno { return unless(n <= most, api.ErrMany) }
}

func (j *judge) pairs() api.Errno {
	n, e := j.number(manyAbove(api.MaxPairs))
	for i, last := 0, ""; e == api.OK && i < n; i++ {
		var key string
		if key, e = j.text(api.MaxKey); e == api.OK {
			e = formUnless(key != "" && (i == 0 || key > last))
		}
		if last = key; e == api.OK {
			_, e = j.text(api.MaxValue)
		}
	}
	return e
}

func (j *judge) sessions() api.Errno {
	n, e := j.number(manyAbove(api.MaxSession))
	for i, last := 0, 0; e == api.OK && i < n; i++ {
		client, code, value := 0, 0, ""
		client, e = j.number(func(n int) api.Errno { return formUnless(n != 0 && (i == 0 || n > last)) })
		if last = client; e == api.OK {
			_, e = j.number(func(n int) api.Errno { return formUnless(n != 0) })
		}
		if e == api.OK {
			code, e = j.number(func(n int) api.Errno { return formUnless(slices.Contains([]int{1, 2, 3, 5}, n)) })
		}
		if e == api.OK {
			value, e = j.text(api.MaxValue)
		}
		if e == api.OK {
			e = formUnless(value == "" || code == 3)
		}
	}
	return e
}

func judged(b []byte) api.Errno {
	j := &judge{b: b}
	e := j.pairs()
	if e == api.OK {
		e = j.sessions()
	}
	if e == api.OK && j.at < len(b) {
		e = api.ErrLong
	}
	return e
}

// eachString goes through all strings of some bytes, up to a length.
func eachString(letters []byte, most int, do func([]byte)) {
	var grow func(b []byte)
	grow = func(b []byte) {
		do(b)
		for _, c := range letters {
			if len(b) < most {
				grow(append(b[:len(b):len(b)], c))
			}
		}
	}
	grow(nil)
}

// Short snapshots, all of them: behind nothing, behind a key, behind a session.
func TestP11_4_AllShortOnes(t *testing.T) {
	seen := map[api.Errno]int{}
	for _, ahead := range [][]byte{nil, {2, 1, 2, 0}, {0, 2, 2, 1, 1, 0}, {1, 1, 'a', 1}, {0, 1, 1, 1}} {
		eachString([]byte{0, 1, 2, 3, 4, 5, 0x81}, 6, func(b []byte) {
			b = append(ahead[:len(ahead):len(ahead)], b...)
			e := judged(b)
			seen[e]++
			restores(t, b, e)
		})
	}
	for _, e := range []api.Errno{api.OK, api.ErrShort, api.ErrForm, api.ErrLong, api.ErrMany} {
		if seen[e] < 100 {
			t.Errorf("%d: %d times alone", e, seen[e])
		}
	}
}

// Snapshots of stores, spoilt in one or two bytes.
func TestP11_4_Spoilt(t *testing.T) {
	pick := rand.New(rand.NewPCG(11, 4))
	seen := map[api.Errno]int{}
	for range 400 {
		p := newPlayer(t, pick)
		for range pick.IntN(60) {
			p.step()
		}
		b := p.s.Snapshot()
		for range 100 {
			spoilt := append([]byte(nil), b...)
			for range 1 + pick.IntN(2) {
				spoilt[pick.IntN(len(b))] = byte(pick.IntN(1 << pick.IntN(9)))
			}
			if pick.IntN(10) == 0 {
				spoilt = append(spoilt, byte(pick.IntN(6)))
			}
			e := judged(spoilt)
			seen[e]++
			restores(t, spoilt, e)
		}
	}
	for _, e := range []api.Errno{api.OK, api.ErrShort, api.ErrForm, api.ErrLong, api.ErrMany} {
		if seen[e] < 100 {
			t.Errorf("%d: %d times alone", e, seen[e])
		}
	}
}

func TestP11_4_Copy(t *testing.T) {
	s := done(t, put(1, 1, "a", "x"), put(2, 1, "b", "y"))
	was := all(s)
	c := s.Copy()
	is(t, all(c), was)
	does(t, c, put(1, 2, "a", "z"), api.RDone, "")
	does(t, c, remove(3, 1, "b"), api.RDone, "")
	does(t, c, put(3, 2, "c", ""), api.RDone, "")
	is(t, all(s), was)
	is(t, told(c), "a=z c=; 1 2 1, 2 1 1, 3 2 1,")
	later := all(c)
	does(t, s, remove(1, 2, "a"), api.RDone, "")
	does(t, s, put(4, 1, "d", ""), api.RDone, "")
	is(t, all(c), later)
	is(t, told(s), "b=y d=; 1 2 1, 2 1 1, 4 1 1,")
	again := c.Copy().Copy()
	is(t, all(again), later)
}

// The copy of an empty store, and of a restored one, takes commands as any other one does.
func TestP11_4_CopyOfOthers(t *testing.T) {
	restored, _ := kv.Restore([]byte{0, 0})
	for _, s := range []*kv.Store{kv.New(), restored, kv.New().Copy()} {
		c := s.Copy()
		is(t, all(c), "; 0000")
		does(t, c, put(1, 1, "a", "x"), api.RDone, "")
		is(t, told(c), "a=x; 1 1 1,")
		is(t, all(s), "; 0000")
	}
	full := visited(t, api.MaxSession).Copy()
	unchanged(t, full, put(99, 1, "a", ""), api.RFull, "")
	crowd := crowded(t, api.MaxPairs).Copy()
	does(t, crowd, put(2, 1, "a", ""), api.RFull, "")
}
