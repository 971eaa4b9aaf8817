package codec_test

import (
	"bytes"
	"math"
	"slices"
	"testing"

	"synod/api"
	"synod/codec"
	"synod/wire"
)

// plain is a codec of texts that are their own bytes: one that begins with a number below 10 may not be, and that number
// is its error; one that begins with a number from 10 on has such an error only when it is read.
type plain struct{}

func (plain) Check(x string) api.Errno {
	if x != "" && x[0] < 10 {
		return api.Errno(x[0])
	}
	return api.OK
}

func (c plain) Put(x string) ([]byte, api.Errno) {
	if e := c.Check(x); e != api.OK {
		return nil, e
	}
	return []byte(x), api.OK
}

func (c plain) Get(b []byte) (string, api.Errno) {
	if len(b) > 0 && b[0] < 20 {
		return "beside an error", api.Errno(b[0] % 10)
	}
	return string(b), api.OK
}

var plains codec.Codec[string] = plain{}

func wrongIs(e api.Errno) string { return string([]byte{byte(e)}) }

func TestP3_2_PutList(t *testing.T) {
	l := []api.State{{Term: 1}, {Term: 1, Vote: 2}}
	for _, most := range []int{2, 3, math.MaxInt} {
		if b, e := codec.PutList(states, l, most); e != api.OK || !bytes.Equal(b, []byte{2, 3, 1, 0, 0, 3, 1, 2, 0}) {
			t.Errorf("most %d: %x, %d", most, b, e)
		}
	}
	for _, none := range [][]api.State{nil, {}, l[:0]} {
		for _, most := range []int{0, 1, math.MaxInt} {
			if b, e := codec.PutList(states, none, most); e != api.OK || !bytes.Equal(b, []byte{0}) {
				t.Errorf("none, most %d: %x, %d", most, b, e)
			}
		}
	}
	many := make([]api.State, 300)
	b, e := codec.PutList(states, many, 300)
	if want := join([]byte{0xac, 2}, bytes.Repeat([]byte{3, 0, 0, 0}, 300)); e != api.OK || !bytes.Equal(b, want) {
		t.Errorf("300 states: %x, %d", b, e)
	}
	full := letters(api.MaxFrame)
	b, e = codec.PutList(plains, []string{"", full, "ab"}, 3)
	if want := join([]byte{3, 0, 0x80, 0x80, 0x40}, []byte(full), []byte{2, 'a', 'b'}); e != api.OK || !bytes.Equal(b, want) {
		t.Errorf("a text of MaxFrame bytes: %d bytes, %d", len(b), e)
	}
}

func TestP3_2_WrongPutList(t *testing.T) {
	long := letters(api.MaxFrame + 1)
	for i, x := range []struct {
		l    []string
		most int
		e    api.Errno
	}{
		{[]string{"a", "b"}, 1, api.ErrLong},
		{[]string{"a"}, 0, api.ErrLong},
		{[]string{"a"}, -1, api.ErrLong},
		{[]string{"a"}, math.MinInt, api.ErrLong},
		{nil, -1, api.ErrLong},
		{[]string{wrongIs(api.ErrForm), "b"}, 1, api.ErrLong},
		{[]string{wrongIs(api.ErrForm), "b"}, 2, api.ErrForm},
		{[]string{"a", wrongIs(api.ErrForm), wrongIs(api.ErrKind)}, 3, api.ErrForm},
		{[]string{"a", wrongIs(api.ErrKind), wrongIs(api.ErrForm)}, 3, api.ErrKind},
		{[]string{"a", long}, 2, api.ErrLong},
		{[]string{long, "a", wrongIs(api.ErrKind)}, 3, api.ErrKind},
		{[]string{long, "a", wrongIs(api.ErrKind)}, 2, api.ErrLong},
	} {
		if b, e := codec.PutList(plains, x.l, x.most); e != x.e || len(b) != 0 {
			t.Errorf("%d: %d bytes, %d, not %d", i, len(b), e, x.e)
		}
	}
	if b, e := codec.PutList(states, []api.State{{Term: 1}, {Vote: 1}, {Vote: 8}}, 3); e != api.ErrForm || len(b) != 0 {
		t.Errorf("states: %x, %d", b, e)
	}
	if b, e := codec.PutList(entries, []api.Entry{{Term: 1, Index: 1, Kind: 2}, {}}, 3); e != api.ErrKind || len(b) != 0 {
		t.Errorf("entries: %x, %d", b, e)
	}
}

func TestP3_2_GetList(t *testing.T) {
	for _, most := range []int{2, 3, math.MaxInt} {
		l, e := codec.GetList(states, []byte{2, 3, 1, 0, 0, 3, 1, 2, 0}, most)
		if e != api.OK || !slices.Equal(l, []api.State{{Term: 1}, {Term: 1, Vote: 2}}) {
			t.Errorf("most %d: %v, %d", most, l, e)
		}
	}
	for _, most := range []int{0, 1, math.MaxInt} {
		if l, e := codec.GetList(states, []byte{0}, most); e != api.OK || len(l) != 0 {
			t.Errorf("none, most %d: %v, %d", most, l, e)
		}
	}
	full := letters(api.MaxFrame)
	l, e := codec.GetList(plains, join([]byte{3, 0, 0x80, 0x80, 0x40}, []byte(full), []byte{2, 'a', 'b'}), 3)
	if e != api.OK || !slices.Equal(l, []string{"", full, "ab"}) {
		t.Errorf("a text of MaxFrame bytes: %d, %d", len(l), e)
	}
}

func TestP3_2_WrongGetList(t *testing.T) {
	for i, x := range []struct {
		b    []byte
		most int
		e    api.Errno
	}{
		{nil, 2, api.ErrShort},
		{nil, -1, api.ErrShort},
		{[]byte{0x80}, 0, api.ErrShort},
		{[]byte{0x82, 0, 9}, 0, api.ErrForm},
		{over9(), 0, api.ErrRange},
		{[]byte{3}, 2, api.ErrLong},
		{[]byte{3, 0x80, 0}, 2, api.ErrLong},
		{[]byte{1, 1, 'a'}, 0, api.ErrLong},
		{[]byte{1, 1, 'a'}, -1, api.ErrLong},
		{[]byte{1, 1, 'a'}, math.MinInt, api.ErrLong},
		{[]byte{0}, -1, api.ErrLong},
		{top9(), math.MaxInt, api.ErrShort},
		{join(top9(), []byte{1, 'a'}), api.MaxIndex, api.ErrShort},
		{[]byte{2, 1, 'a'}, 2, api.ErrShort},
		{[]byte{2, 1, 'a', 2, 'b'}, 2, api.ErrShort},
		{[]byte{2, 1, 'a', 0x81, 0, 'b'}, 2, api.ErrForm},
		{[]byte{2, 1, 'a', 1, 'b', 0}, 2, api.ErrLong},
		{[]byte{0, 0}, 2, api.ErrLong},
		{[]byte{1, 0x81, 0x80, 0x40}, 2, api.ErrLong},
		{join([]byte{1}, sized([]byte(letters(api.MaxFrame+1))...)), 2, api.ErrLong},
		{[]byte{2, 1, byte(api.ErrKind), 1, byte(api.ErrSum)}, 2, api.ErrKind},
		{[]byte{2, 1, byte(api.ErrSum), 1, byte(api.ErrKind)}, 2, api.ErrSum},
		{[]byte{2, 1, 'a', 1, byte(api.ErrKind), 0}, 2, api.ErrKind},
		{[]byte{2, 1, byte(api.ErrKind), 0x81, 0}, 2, api.ErrKind},
		{[]byte{2, 1, byte(api.ErrKind) + 10}, 2, api.ErrKind},
		{[]byte{2, 0x81, 0, byte(api.ErrKind)}, 2, api.ErrForm},
	} {
		if l, e := codec.GetList(plains, x.b, x.most); e != x.e || len(l) != 0 {
			t.Errorf("%d: %q, %d, not %d", i, l, e, x.e)
		}
	}
	for i, x := range []struct {
		b []byte
		e api.Errno
	}{
		{[]byte{1, 3, 0, 1, 0}, api.ErrForm},
		{[]byte{1, 2, 1, 0}, api.ErrShort},
		{[]byte{1, 4, 1, 0, 0, 0}, api.ErrLong},
		{[]byte{1, 0}, api.ErrShort},
		{[]byte{2, 3, 1, 0, 0, 3, 1, 8, 0}, api.ErrRange},
	} {
		if l, e := codec.GetList(states, x.b, 2); e != x.e || len(l) != 0 {
			t.Errorf("states, %d: %v, %d, not %d", i, l, e, x.e)
		}
	}
}

func TestP3_3_Same(t *testing.T) {
	trySame(t, entries, entryTexts())
	trySame(t, states, stateTexts())
	trySame(t, snaps, snapTexts())
	trySame(t, messages, messageTexts())
	trySame(t, commands, commandTexts())
	trySame(t, replies, replyTexts())
}

func trySame[T any](t *testing.T, c codec.Codec[T], list []texted[T]) {
	t.Helper()
	for i, x := range list {
		for j, y := range list {
			if codec.Same(c, x.x, y.x) != bytes.Equal(x.b, y.b) {
				t.Errorf("%T, %d and %d", c, i, j)
			}
		}
	}
}

func TestP3_3_WhatMayNotBe(t *testing.T) {
	right, wrong := api.State{Term: 1, Vote: 1}, api.State{Vote: 1}
	if codec.Same(states, wrong, wrong) || codec.Same(states, wrong, right) || codec.Same(states, right, wrong) || !codec.Same(states, right, right) {
		t.Error("states")
	}
	if codec.Same(entries, api.Entry{}, api.Entry{}) || codec.Same(messages, api.Message{}, api.Message{}) ||
		codec.Same(commands, api.Command{}, api.Command{}) || codec.Same(replies, api.Reply{}, api.Reply{}) {
		t.Error("what is all zero may not be")
	}
	if !codec.Same(snaps, api.Snap{}, api.Snap{Data: []byte{}}) || codec.Same(snaps, api.Snap{Term: 1}, api.Snap{Term: 1}) {
		t.Error("snapshots")
	}
	if !codec.Same(plains, "a", "a") || codec.Same(plains, "a", "b") || codec.Same(plains, "", wrongIs(api.ErrKind)) || codec.Same(plains, wrongIs(api.ErrKind), "") {
		t.Error("texts")
	}
}

// halves is a codec of numbers that has but one text for two of them, that alone says by Check what may be, and that has
// no text of 100.
type halves struct{}

func (halves) Check(n int) api.Errno {
	if n < 0 {
		return api.ErrRange
	}
	return api.OK
}
func (halves) Put(n int) ([]byte, api.Errno) {
	if n == 100 {
		return nil, api.ErrNone
	}
	return wire.PutInt(max(n, 0) / 2)
}
func (halves) Get(b []byte) (int, api.Errno) {
	n, _, e := wire.Int(b, 0)
	return 2 * n, e
}

func TestP3_3_AnyCodec(t *testing.T) {
	for _, x := range []struct {
		a, b int
		same bool
	}{{4, 5, true}, {5, 4, true}, {3, 4, false}, {0, 1, true}, {-1, 0, false}, {0, -1, false}, {-1, -1, false}, {100, 100, false}, {100, 0, false}} {
		if codec.Same(codec.Codec[int](halves{}), x.a, x.b) != x.same {
			t.Errorf("%d and %d", x.a, x.b)
		}
	}
}
