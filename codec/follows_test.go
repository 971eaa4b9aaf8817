package codec_test

import (
	"bytes"
	"math/rand/v2"
	"slices"
	"testing"

	"synod/api"
	"synod/codec"
)

// small is a number of few or of many bytes, from least to most.
func small(pick *rand.Rand, least, most int) int {
	return least + pick.IntN(most-least+1)>>pick.IntN(62)
}

func some(pick *rand.Rand, most int) []byte {
	b := make([]byte, pick.IntN(most)>>pick.IntN(12))
	for i := range b {
		b[i] = byte(pick.IntN(256))
	}
	return b
}

func anyEntry(pick *rand.Rand) api.Entry {
	x := api.Entry{Term: small(pick, 1, top), Index: small(pick, 1, top), Kind: pick.IntN(2)}
	if x.Kind == api.ECommand {
		x.Data = some(pick, api.MaxData)
	}
	return x
}

func anyState(pick *rand.Rand) api.State {
	return api.State{Term: small(pick, 1, top), Vote: pick.IntN(8), Commit: small(pick, 0, top)}
}

func anySnap(pick *rand.Rand) api.Snap {
	return api.Snap{Index: small(pick, 1, top), Term: small(pick, 1, top), Data: some(pick, 1<<13)}
}

func anyCommand(pick *rand.Rand) api.Command {
	x := api.Command{Op: api.OpPut + pick.IntN(3), Client: small(pick, 1, top), Seq: small(pick, 1, top), Key: "k" + string(some(pick, api.MaxKey-1))}
	if x.Op != api.OpDelete {
		x.Value = string(some(pick, api.MaxValue))
	}
	if x.Op == api.OpSwap {
		x.Old = string(some(pick, api.MaxValue))
	}
	return x
}

func anyReply(pick *rand.Rand) api.Reply {
	return api.Reply{Code: 1 + pick.IntN(10), Value: string(some(pick, api.MaxValue))}
}

// rightMessage is any message that may be, by the words of the chapter.
func rightMessage(pick *rand.Rand) api.Message {
	for {
		if x := anyMessage(pick); wrongMessage(x) == api.OK {
			return x
		}
	}
}

// back: Get of Put is the thing; Put of Get is the bytes; no front of them is read, nor they with a byte behind.
func back[T any](t *testing.T, c codec.Codec[T], x T, seen map[string]string) {
	t.Helper()
	b, e := c.Put(x)
	if e != api.OK || c.Check(x) != api.OK {
		t.Fatalf("P3.5: %T: %s: %d", c, brief(say(x)), e)
	}
	y, e := c.Get(b)
	if e != api.OK || say(y) != say(x) || c.Check(y) != api.OK {
		t.Fatalf("P3.5: %T: %s, %d; not %s", c, brief(say(y)), e, brief(say(x)))
	}
	again, e := c.Put(y)
	if e != api.OK || !bytes.Equal(again, b) || !codec.Same(c, x, y) {
		t.Fatalf("P3.5: %T: %s: %d", c, brief(say(x)), e)
	}
	for n := range min(len(b), 40) {
		for _, front := range [][]byte{b[:n], b[:len(b)-1-n]} {
			if z, e := c.Get(front); e != api.ErrShort {
				t.Fatalf("P3.6: %T: %d of %d bytes: %s, %d", c, len(front), len(b), brief(say(z)), e)
			}
		}
	}
	for _, more := range []byte{0, 1, 0x80, 0xff} {
		if z, e := c.Get(join(b, []byte{more})); e != api.ErrLong {
			t.Fatalf("P3.6: %T: a byte behind %d: %s, %d", c, len(b), brief(say(z)), e)
		}
	}
	if other, there := seen[string(b)]; there && other != say(x) {
		t.Fatalf("P3.6: %T: %s and %s have one text", c, brief(other), brief(say(x)))
	}
	seen[string(b)] = say(x)
}

func tryBack[T any](t *testing.T, c codec.Codec[T], pick *rand.Rand, make func(*rand.Rand) T) {
	t.Helper()
	seen := map[string]string{}
	for range 400 {
		back(t, c, make(pick), seen)
	}
	if len(seen) < 100 {
		t.Errorf("%T: but %d unlike things", c, len(seen))
	}
}

func TestP3_5_P3_6_ThereAndBack(t *testing.T) {
	pick := rand.New(rand.NewPCG(3, 5))
	tryBack(t, entries, pick, anyEntry)
	tryBack(t, states, pick, anyState)
	tryBack(t, snaps, pick, anySnap)
	tryBack(t, messages, pick, rightMessage)
	tryBack(t, commands, pick, anyCommand)
	tryBack(t, replies, pick, anyReply)
}

// Whatever is read, it may be, and is written as it was read; so no two texts are one thing.
func TestP3_5_WhatIsRead(t *testing.T) {
	tryRead(t, entries, []byte{0, 1, 2, 3, 0x80, 0x81}, 6)
	tryRead(t, states, []byte{0, 1, 2, 7, 8, 0x80, 0x81}, 5)
	tryRead(t, snaps, []byte{0, 1, 2, 3, 0x80, 0x81}, 6)
	tryRead(t, messages, []byte{1, 2, 4, 5, 6, 0, 0x81}, 6)
	tryRead(t, commands, []byte{0, 1, 2, 3, 4}, 8)
	tryRead(t, replies, []byte{0, 1, 2, 3, 10, 11, 0x80}, 5)
}

func tryRead[T any](t *testing.T, c codec.Codec[T], letters []byte, most int) {
	t.Helper()
	var whole [][]byte
	eachText(nil, letters, most, func(b []byte) {
		x, e := c.Get(b)
		if e != api.OK {
			return
		}
		whole = append(whole, b)
		if again, f := c.Put(x); f != api.OK || !bytes.Equal(again, b) || c.Check(x) != api.OK {
			t.Errorf("%T: %x is read as %s, and written as %x, %d", c, b, say(x), again, f)
		}
	})
	if len(whole) < 4 {
		t.Errorf("%T: but %d were read", c, len(whole))
	}
	// In order, a front of a text would stand right ahead of a text that it begins.
	slices.SortFunc(whole, bytes.Compare)
	for i := 1; i < len(whole); i++ {
		if bytes.HasPrefix(whole[i], whole[i-1]) {
			t.Errorf("P3.6: %T: %x and %x are both read", c, whole[i-1], whole[i])
		}
	}
}

func tryLists[T any](t *testing.T, c codec.Codec[T], pick *rand.Rand, make func(*rand.Rand) T) {
	t.Helper()
	for range 60 {
		var l []T
		var texts []string
		for range pick.IntN(5) * pick.IntN(40) {
			x := make(pick)
			b, _ := c.Put(x)
			l, texts = append(l, x), append(texts, string(b))
		}
		b, e := codec.PutList(c, l, len(l))
		m, f := codec.GetList(c, b, len(l)+pick.IntN(2))
		if e != api.OK || f != api.OK || say(m) != say(l) {
			t.Fatalf("%T: %d of %d, %d, %d", c, len(m), len(l), e, f)
		}
		// Of another codec the same texts are the same list.
		if other, e := codec.PutList(codec.Codec[string](bare{}), texts, len(l)); e != api.OK || !bytes.Equal(other, b) {
			t.Fatalf("%T: %d things: %d", c, len(l), e)
		}
		if len(l) > 0 {
			if _, e := codec.GetList(c, b, len(l)-1); e != api.ErrLong {
				t.Fatalf("%T: one more than most: %d", c, e)
			}
		}
		if _, e := codec.GetList(c, b[:len(b)-1], len(l)); e != api.ErrShort {
			t.Fatalf("%T: without its last byte: %d", c, e)
		}
		if _, e := codec.GetList(c, join(b, []byte{0}), len(l)); e != api.ErrLong {
			t.Fatalf("%T: with a byte behind: %d", c, e)
		}
	}
}

// bare is the codec of texts that are their own bytes, whatever they are.
type bare struct{}

func (bare) Check(string) api.Errno           { return api.OK }
func (bare) Put(x string) ([]byte, api.Errno) { return []byte(x), api.OK }
func (bare) Get(b []byte) (string, api.Errno) { return string(b), api.OK }

func TestP3_7_Lists(t *testing.T) {
	pick := rand.New(rand.NewPCG(3, 7))
	tryLists(t, entries, pick, anyEntry)
	tryLists(t, states, pick, anyState)
	tryLists(t, snaps, pick, anySnap)
	tryLists(t, messages, pick, rightMessage)
	tryLists(t, commands, pick, anyCommand)
	tryLists(t, replies, pick, anyReply)
	tryLists(t, codec.Codec[string](bare{}), pick, func(pick *rand.Rand) string { return string(some(pick, 3000)) })
}
