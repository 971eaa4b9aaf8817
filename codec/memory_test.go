package codec_test

import (
	"bytes"
	"testing"

	"synod/api"
	"synod/codec"
)

// scribble writes all over a list and its spare room.
func scribble(b []byte) {
	for i := range b[:cap(b)] {
		b[:cap(b)][i] = 0xee
	}
}

// roomy is a copy with other bytes behind its length.
func roomy(b []byte) []byte { return join(b, []byte("\x00\x01\x00behind it"))[:len(b)] }

// lists are the lists of bytes in a thing.
func lists(x any) [][]byte {
	switch x := x.(type) {
	case api.Entry:
		return [][]byte{x.Data}
	case api.Snap:
		return [][]byte{x.Data}
	case api.Message:
		l := [][]byte{x.Snap.Data}
		for _, entry := range x.Entries {
			l = append(l, entry.Data)
		}
		return l
	}
	return nil
}

// own makes all lists of a thing its own, with other things behind their length.
func own[T any](x T) T {
	switch y := any(x).(type) {
	case api.Entry:
		y.Data = roomy(y.Data)
		return any(y).(T)
	case api.Snap:
		y.Data = roomy(y.Data)
		return any(y).(T)
	case api.Message:
		y.Snap.Data = roomy(y.Snap.Data)
		var l []api.Entry
		for _, entry := range y.Entries {
			l = append(l, own(entry))
		}
		y.Entries = append(l, api.Entry{Term: -1, Data: []byte("behind them")})[:len(l)]
		return any(y).(T)
	}
	return x
}

// memory is all that a thing reaches, the spare room of its lists too.
func memory(x any) string {
	s := say(x)
	for _, b := range lists(x) {
		s += say(b[:cap(b)])
	}
	if m, ok := x.(api.Message); ok {
		s += say(m.Entries[:cap(m.Entries)])
	}
	return s
}

func TestP3_4_ThingsStay(t *testing.T) {
	tryStay(t, entries, entryTexts())
	tryStay(t, states, stateTexts())
	tryStay(t, snaps, snapTexts())
	tryStay(t, messages, messageTexts())
	tryStay(t, commands, commandTexts())
	tryStay(t, replies, replyTexts())
}

func tryStay[T any](t *testing.T, c codec.Codec[T], list []texted[T]) {
	t.Helper()
	for i, x := range list {
		if len(x.b) > 1<<14 {
			continue
		}
		y := own(x.x)
		was := memory(y)
		l := []T{y, y, x.x}[:2]
		c.Check(y)
		first, _ := c.Put(y)
		whole, _ := codec.PutList(c, l, 2)
		codec.Same(c, y, x.x)
		scribble(first)
		scribble(whole)
		if memory(y) != was || say(l[:3]) != say([]T{y, y, x.x}) {
			t.Errorf("%T, %d: the argument is changed", c, i)
		}
		second, e := c.Put(y)
		if e != api.OK || !bytes.Equal(second, x.b) {
			t.Errorf("%T, %d: another Put: %x, %d", c, i, second, e)
		}
		for _, b := range lists(y) {
			scribble(b)
		}
		if !bytes.Equal(second, x.b) {
			t.Errorf("%T, %d: the text shares memory with the thing", c, i)
		}
	}
}

func TestP3_4_TextsStay(t *testing.T) {
	tryTextStays(t, entries, entryTexts())
	tryTextStays(t, states, stateTexts())
	tryTextStays(t, snaps, snapTexts())
	tryTextStays(t, messages, messageTexts())
	tryTextStays(t, commands, commandTexts())
	tryTextStays(t, replies, replyTexts())
}

func tryTextStays[T any](t *testing.T, c codec.Codec[T], list []texted[T]) {
	t.Helper()
	for i, x := range list {
		if len(x.b) > 1<<14 {
			continue
		}
		b := roomy(x.b)
		was := bytes.Clone(b[:cap(b)])
		got, e := c.Get(b)
		if e != api.OK || say(got) != say(x.x) {
			t.Errorf("%T, %d: what lies behind the length is read: %s, %d", c, i, say(got), e)
		}
		for n := range b {
			if _, e := c.Get(b[:n]); e != api.ErrShort {
				t.Errorf("%T, %d: the first %d bytes: %d", c, i, n, e)
			}
		}
		for _, data := range lists(got) {
			scribble(data)
			_ = append(data, 0xee)
		}
		if !bytes.Equal(b[:cap(b)], was) {
			t.Errorf("%T, %d: the argument is changed", c, i)
		}
		got, _ = c.Get(b)
		scribble(b)
		if say(got) != say(x.x) {
			t.Errorf("%T, %d: the answer shares memory with the text", c, i)
		}
	}
}

// alone: what is written into one of some lists, or appended to it, no other one shows.
func alone(t *testing.T, name string, l [][]byte) {
	t.Helper()
	var was [][]byte
	for _, b := range l {
		was = append(was, bytes.Clone(b))
	}
	for i := range l {
		for j := range l[i][:cap(l[i])] {
			l[i][:cap(l[i])][j] ^= 0xff
		}
		for j := range l {
			if j != i && !bytes.Equal(l[j], was[j]) {
				t.Errorf("%s: lists %d and %d share memory", name, i, j)
			}
		}
		for j := range l[i][:cap(l[i])] {
			l[i][:cap(l[i])][j] ^= 0xff
		}
	}
}

func TestP3_4_ListsOfAnAnswer(t *testing.T) {
	b := []byte{3, 2, 1, 3, 0, 0, 0, 3, 6, 1, 1, 1, 2, 'a', 'b', 6, 1, 2, 1, 2, 'c', 'd', 5, 3, 3, 1, 1, 'e'}
	x, e := codec.Messages{}.Get(b)
	y, f := codec.Messages{}.Get(b)
	if e != api.OK || f != api.OK || len(x.Entries) != 3 {
		t.Fatalf("%v, %d, %d", x, e, f)
	}
	alone(t, "two messages", append(lists(x), lists(y)...))
	was := say(y)
	for i := range x.Entries[:cap(x.Entries)] {
		x.Entries[:cap(x.Entries)][i] = api.Entry{Term: -1}
	}
	if say(y) != was {
		t.Errorf("two messages share their entries: %v", y)
	}

	text, e := codec.PutList(messages, []api.Message{y, y}, 2)
	l, f := codec.GetList(messages, text, 2)
	m, g := codec.GetList(messages, text, 2)
	if e != api.OK || f != api.OK || g != api.OK || len(l) != 2 || len(m) != 2 {
		t.Fatalf("%v, %v, %d, %d, %d", l, m, e, f, g)
	}
	alone(t, "lists of messages", append(append(lists(l[0]), lists(l[1])...), append(lists(m[0]), lists(m[1])...)...))
	kept := bytes.Clone(text)
	scribble(l[0].Entries[0].Data)
	clear(l[0].Entries[:cap(l[0].Entries)])
	clear(l[:cap(l)])
	if say(m) != say([]api.Message{y, y}) || !bytes.Equal(text, kept) {
		t.Errorf("two lists share memory: %v", m)
	}
	scribble(text)
	if say(m) != say([]api.Message{y, y}) {
		t.Errorf("a list shares memory with its text: %v", m)
	}
}

// The codecs of a list may do with their memory what they like.
type greedy struct{}

func (greedy) Check([]byte) api.Errno               { return api.OK }
func (greedy) Put(x []byte) ([]byte, api.Errno)     { return x, api.OK }
func (greedy) Get(b []byte) (x []byte, _ api.Errno) { return b, api.OK }

func TestP3_4_ListsOfAnyCodec(t *testing.T) {
	c := codec.Codec[[]byte](greedy{})
	l := [][]byte{roomy([]byte("ab")), {}, roomy([]byte("c"))}
	text, e := codec.PutList(c, l, 3)
	if want := []byte{3, 2, 'a', 'b', 0, 1, 'c'}; e != api.OK || !bytes.Equal(text, want) {
		t.Fatalf("%x, %d", text, e)
	}
	alone(t, "things and their text", append(l, text))
	got, e := codec.GetList(c, text, 3)
	if e != api.OK || say(got) != say([][]byte{[]byte("ab"), nil, []byte("c")}) {
		t.Fatalf("%v, %d", got, e)
	}
	alone(t, "a text and its things", append(got, text))
}
