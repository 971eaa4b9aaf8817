package codec_test

import (
	"bytes"
	"fmt"
	"strings"
	"testing"

	"synod/api"
	"synod/codec"
)

// The codecs as what lists go by.
var (
	entries  codec.Codec[api.Entry]   = codec.Entries{}
	states   codec.Codec[api.State]   = codec.States{}
	snaps    codec.Codec[api.Snap]    = codec.Snaps{}
	messages codec.Codec[api.Message] = codec.Messages{}
	commands codec.Codec[api.Command] = codec.Commands{}
	replies  codec.Codec[api.Reply]   = codec.Replies{}
)

// say is all of a thing; nil and empty lists do not differ in it.
func say(x any) string { return fmt.Sprintf("%+v", x) }

// brief is the beginning of what would be too long for a line.
func brief(s string) string { return s[:min(len(s), 200)] }

func join(parts ...[]byte) []byte { return bytes.Join(parts, nil) }

// number is a number's bytes, by the words of chapter 1.
func number(n int) []byte {
	var b []byte
	for ; n >= 128; n /= 128 {
		b = append(b, byte(n%128)+128)
	}
	return append(b, byte(n))
}

// sized is bytes with their length ahead.
func sized(b ...byte) []byte { return join(number(len(b)), b) }

// many is as many bytes, none like its neighbour.
func many(n int) []byte {
	b := make([]byte, n)
	for i := range b {
		b[i] = byte(i*7 + i/256)
	}
	return b
}

func letters(n int) string { return strings.Repeat("k", n) }

// texted is a thing, and the text that it has.
type texted[T any] struct {
	x T
	b []byte
}

const top = api.MaxIndex

// top9 is the bytes of MaxIndex.
func top9() []byte { return []byte{0x80, 0x80, 0x80, 0x80, 0x80, 0x80, 0x80, 0x80, 0x40} }

func entryTexts() []texted[api.Entry] {
	return []texted[api.Entry]{
		{api.Entry{Term: 1, Index: 1, Kind: api.EEmpty}, []byte{1, 1, 0, 0}},
		{api.Entry{Term: 3, Index: 300, Kind: api.ECommand, Data: []byte("ab")}, []byte{3, 0xac, 2, 1, 2, 'a', 'b'}},
		{api.Entry{Term: 300, Index: 3, Kind: api.ECommand}, []byte{0xac, 2, 3, 1, 0}},
		{api.Entry{Term: 2, Index: 1, Kind: api.ECommand, Data: []byte{}}, []byte{2, 1, 1, 0}},
		{api.Entry{Term: 1, Index: 1, Kind: api.ECommand, Data: []byte{0}}, []byte{1, 1, 1, 1, 0}},
		{api.Entry{Term: top, Index: 1, Kind: api.EEmpty, Data: []byte{}}, join(top9(), []byte{1, 0, 0})},
		{api.Entry{Term: 1, Index: top, Kind: api.EEmpty}, join([]byte{1}, top9(), []byte{0, 0})},
		{api.Entry{Term: 1, Index: 2, Kind: api.ECommand, Data: many(api.MaxData)}, join([]byte{1, 2, 1, 0x80, 0x20}, many(api.MaxData))},
		{api.Entry{Term: top, Index: top, Kind: api.ECommand, Data: many(api.MaxData)}, join(top9(), top9(), []byte{1, 0x80, 0x20}, many(api.MaxData))},
	}
}

func stateTexts() []texted[api.State] {
	return []texted[api.State]{
		{api.State{}, []byte{0, 0, 0}},
		{api.State{Term: 5, Vote: 2, Commit: 9}, []byte{5, 2, 9}},
		{api.State{Term: 1, Vote: 7}, []byte{1, 7, 0}},
		{api.State{Commit: 1}, []byte{0, 0, 1}},
		{api.State{Term: top, Vote: 1, Commit: 300}, join(top9(), []byte{1, 0xac, 2})},
		{api.State{Term: 1, Commit: top}, join([]byte{1, 0}, top9())},
	}
}

func snapTexts() []texted[api.Snap] {
	return []texted[api.Snap]{
		{api.Snap{}, []byte{0, 0, 0}},
		{api.Snap{Data: []byte{}}, []byte{0, 0, 0}},
		{api.Snap{Index: 1, Term: 1}, []byte{1, 1, 0}},
		{api.Snap{Index: 7, Term: 2, Data: []byte{8}}, []byte{7, 2, 1, 8}},
		{api.Snap{Index: top, Term: 1, Data: []byte{}}, join(top9(), []byte{1, 0})},
		{api.Snap{Index: 1, Term: top, Data: []byte("ab")}, join([]byte{1}, top9(), []byte{2, 'a', 'b'})},
		{api.Snap{Index: top, Term: top, Data: many(api.MaxSnap)}, join(top9(), top9(), []byte{0x80, 0x80, 0x20}, many(api.MaxSnap))},
	}
}

func commandTexts() []texted[api.Command] {
	key, value, old := letters(api.MaxKey), string(many(api.MaxValue)), letters(api.MaxValue)
	return []texted[api.Command]{
		{api.Command{Op: api.OpPut, Client: 1, Seq: 2, Key: "k", Value: "v"}, []byte{2, 1, 2, 1, 'k', 1, 'v', 0}},
		{api.Command{Op: api.OpPut, Client: 300, Seq: 1, Key: "\x00"}, []byte{2, 0xac, 2, 1, 1, 0, 0, 0}},
		{api.Command{Op: api.OpDelete, Client: 2, Seq: 1, Key: "k"}, []byte{3, 2, 1, 1, 'k', 0, 0}},
		{api.Command{Op: api.OpSwap, Client: 1, Seq: 2, Key: "k", Value: "v", Old: "o"}, []byte{4, 1, 2, 1, 'k', 1, 'v', 1, 'o'}},
		{api.Command{Op: api.OpSwap, Client: 1, Seq: 1, Key: "\xff\x80"}, []byte{4, 1, 1, 2, 0xff, 0x80, 0, 0}},
		{api.Command{Op: api.OpSwap, Client: 1, Seq: 1, Key: "k", Old: "o"}, []byte{4, 1, 1, 1, 'k', 0, 1, 'o'}},
		{api.Command{Op: api.OpDelete, Client: top, Seq: 1, Key: key}, join([]byte{3}, top9(), []byte{1, 64}, []byte(key), []byte{0, 0})},
		{api.Command{Op: api.OpPut, Client: 1, Seq: top, Key: "k", Value: value}, join([]byte{2, 1}, top9(), []byte{1, 'k', 0x80, 8}, []byte(value), []byte{0})},
		{api.Command{Op: api.OpSwap, Client: top, Seq: top, Key: key, Value: value, Old: old}, join([]byte{4}, top9(), top9(), []byte{64}, []byte(key), []byte{0x80, 8}, []byte(value), []byte{0x80, 8}, []byte(old))},
	}
}

func replyTexts() []texted[api.Reply] {
	value := string(many(api.MaxValue))
	list := []texted[api.Reply]{
		{api.Reply{Code: api.ROther, Value: "x"}, []byte{3, 1, 'x'}},
		{api.Reply{Code: api.RDone, Value: "\xff\x00"}, []byte{1, 2, 0xff, 0}},
		{api.Reply{Code: api.RDown, Value: value}, join([]byte{10, 0x80, 8}, []byte(value))},
	}
	for code := api.RDone; code <= api.RDown; code++ {
		list = append(list, texted[api.Reply]{api.Reply{Code: code}, []byte{byte(code), 0}})
	}
	return list
}

// full is a message with as many entries as may be, each as long as may be, and its text.
func full() texted[api.Message] {
	x := api.Message{Kind: api.MApp, From: 7, To: 1, Term: top, Index: top - 64, LogTerm: 1, Commit: top}
	b := join([]byte{3, 7, 1}, top9(), number(top-64), []byte{1}, top9(), []byte{64})
	for i := range 64 {
		x.Entries = append(x.Entries, api.Entry{Term: top, Index: top - 63 + i, Kind: api.ECommand, Data: many(api.MaxData)})
		b = join(b, sized(join(top9(), number(top-63+i), []byte{1, 0x80, 0x20}, many(api.MaxData))...))
	}
	return texted[api.Message]{x, b}
}

func messageTexts() []texted[api.Message] {
	return []texted[api.Message]{
		{api.Message{Kind: api.MVote, From: 1, To: 2, Term: 4, Index: 7, LogTerm: 3}, []byte{1, 1, 2, 4, 7, 3}},
		{api.Message{Kind: api.MVote, From: 7, To: 1, Term: 1}, []byte{1, 7, 1, 1, 0, 0}},
		{api.Message{Kind: api.MVote, From: 1, To: 7, Term: top, Index: top, LogTerm: top - 1}, join([]byte{1, 1, 7}, top9(), top9(), number(top-1))},
		{api.Message{Kind: api.MVoteAns, From: 2, To: 1, Term: 4, Reject: true}, []byte{2, 2, 1, 4, 1}},
		{api.Message{Kind: api.MVoteAns, From: 2, To: 1, Term: top}, join([]byte{2, 2, 1}, top9(), []byte{0})},
		{api.Message{Kind: api.MVoteAns, From: 2, To: 1, Term: 1, Entries: []api.Entry{}, Snap: api.Snap{Data: []byte{}}}, []byte{2, 2, 1, 1, 0}},
		{api.Message{Kind: api.MApp, From: 2, To: 1, Term: 2, Index: 1, LogTerm: 1, Commit: 1, Entries: []api.Entry{{Term: 2, Index: 2}}}, []byte{3, 2, 1, 2, 1, 1, 1, 1, 4, 2, 2, 0, 0}},
		{api.Message{Kind: api.MApp, From: 2, To: 1, Term: 2, Index: 9, LogTerm: 2, Commit: 12}, []byte{3, 2, 1, 2, 9, 2, 12, 0}},
		{api.Message{Kind: api.MApp, From: 2, To: 1, Term: 1, Entries: []api.Entry{}}, []byte{3, 2, 1, 1, 0, 0, 0, 0}},
		{api.Message{Kind: api.MApp, From: 2, To: 1, Term: 3, Entries: []api.Entry{{Term: 1, Index: 1, Kind: 1, Data: []byte("a")}, {Term: 1, Index: 2}, {Term: 3, Index: 3, Kind: 1}}},
			[]byte{3, 2, 1, 3, 0, 0, 0, 3, 5, 1, 1, 1, 1, 'a', 4, 1, 2, 0, 0, 4, 3, 3, 1, 0}},
		{api.Message{Kind: api.MApp, From: 2, To: 1, Term: top, Index: top, LogTerm: top, Commit: top}, join([]byte{3, 2, 1}, top9(), top9(), top9(), top9(), []byte{0})},
		full(),
		{api.Message{Kind: api.MAppAns, From: 2, To: 1, Term: 2, Index: 5, Reject: true, Hint: 3}, []byte{4, 2, 1, 2, 5, 1, 3}},
		{api.Message{Kind: api.MAppAns, From: 2, To: 1, Term: 2, Index: 300}, []byte{4, 2, 1, 2, 0xac, 2, 0, 0}},
		{api.Message{Kind: api.MAppAns, From: 2, To: 1, Term: 2, Reject: true}, []byte{4, 2, 1, 2, 0, 1, 0}},
		{api.Message{Kind: api.MAppAns, From: 2, To: 1, Term: 2, Index: top, Reject: true, Hint: top}, join([]byte{4, 2, 1, 2}, top9(), []byte{1}, top9())},
		{api.Message{Kind: api.MBeat, From: 2, To: 1, Term: 2, Commit: 3, Ctx: 4}, []byte{5, 2, 1, 2, 3, 4}},
		{api.Message{Kind: api.MBeat, From: 2, To: 1, Term: 2}, []byte{5, 2, 1, 2, 0, 0}},
		{api.Message{Kind: api.MBeat, From: 2, To: 1, Term: 2, Commit: top, Ctx: top}, join([]byte{5, 2, 1, 2}, top9(), top9())},
		{api.Message{Kind: api.MBeatAns, From: 2, To: 1, Term: 2, Ctx: 4}, []byte{6, 2, 1, 2, 4}},
		{api.Message{Kind: api.MBeatAns, From: 2, To: 1, Term: 2, Ctx: top}, join([]byte{6, 2, 1, 2}, top9())},
		{api.Message{Kind: api.MSnap, From: 2, To: 1, Term: 2, Snap: api.Snap{Index: 1, Term: 1, Data: []byte{9}}}, []byte{7, 2, 1, 2, 4, 1, 1, 1, 9}},
		{api.Message{Kind: api.MSnap, From: 2, To: 1, Term: 2, Snap: api.Snap{Index: 300, Term: 2}}, []byte{7, 2, 1, 2, 4, 0xac, 2, 2, 0}},
		{api.Message{Kind: api.MSnap, From: 2, To: 1, Term: top, Snap: api.Snap{Index: top, Term: top, Data: many(api.MaxSnap)}},
			join([]byte{7, 2, 1}, top9(), sized(join(top9(), top9(), []byte{0x80, 0x80, 0x20}, many(api.MaxSnap))...))},
	}
}

func TestP3_1_Texts(t *testing.T) {
	tryTexts(t, entries, entryTexts())
	tryTexts(t, states, stateTexts())
	tryTexts(t, snaps, snapTexts())
	tryTexts(t, messages, messageTexts())
	tryTexts(t, commands, commandTexts())
	tryTexts(t, replies, replyTexts())
}

func tryTexts[T any](t *testing.T, c codec.Codec[T], list []texted[T]) {
	t.Helper()
	for i, x := range list {
		if e := c.Check(x.x); e != api.OK {
			t.Errorf("%T, %d: Check: %d of %s", c, i, e, brief(say(x.x)))
		}
		if b, e := c.Put(x.x); e != api.OK || !bytes.Equal(b, x.b) {
			t.Errorf("%T, %d: Put: %s, %d; not %s", c, i, brief(fmt.Sprintf("%x", b)), e, brief(fmt.Sprintf("%x", x.b)))
		}
		if y, e := c.Get(x.b); e != api.OK || say(y) != say(x.x) {
			t.Errorf("%T, %d: Get: %s, %d; not %s", c, i, brief(say(y)), e, brief(say(x.x)))
		}
	}
}
