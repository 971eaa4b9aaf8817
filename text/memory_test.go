package text_test

import (
	"fmt"
	"slices"
	"strings"
	"testing"

	"synod/api"
	"synod/node"
	"synod/text"
	"synod/world"
)

// over writes a thing all over a list and its spare room.
func over[T any](l []T, x T) {
	for i := range l[:cap(l)] {
		l[:cap(l)][i] = x
	}
	_ = append(l, x, x, x)
}

// Whatever is written into an answer, or behind it, no other one shows it.
func TestP17_6_WordsAreNew(t *testing.T) {
	for n := range 40 {
		line := strings.Repeat(`a "b c" `, n)
		l, _ := text.Words(line)
		other, _ := text.Words(line)
		want := slices.Clone(other)
		over(l, "!")
		if !slices.Equal(other, want) {
			t.Errorf("%d: %q", n, other)
		}
		words(t, line, want...)
		over(other, "?")
		words(t, line, want...)
	}
}

// some are so many events.
func some(n int) []world.Event {
	var l []world.Event
	for i := range n {
		l = append(l, world.Event{Kind: node.ESync + i%2, Node: 1, Number: i})
	}
	return l
}

func TestP17_6_ToldIsNew(t *testing.T) {
	for n := range 40 {
		x := world.Told{Did: true, Events: some(n)}
		l, other := text.FormatTold(x), text.FormatTold(x)
		want := slices.Clone(other)
		over(l, "!")
		if !slices.Equal(other, want) || len(want) != n+1 {
			t.Errorf("%d: %q", n, other)
		}
		told(t, x, want...)
	}
}

// What is handed in is not changed, not kept, and what lies behind it is neither read nor written.
func TestP17_6_HandedInStays(t *testing.T) {
	for n := range 40 {
		whole := append(some(n), world.Event{Kind: node.EDown, Node: 9}, world.Event{Kind: 99})
		was := fmt.Sprint(whole)
		x := world.Told{Err: api.ErrNone, Events: whole[:n]}
		l := text.FormatTold(x)
		is(t, fmt.Sprint(whole), was)
		if len(l) != n+1 {
			t.Errorf("%d: %q", n, l)
		}
		want := fmt.Sprint(l)
		over(whole, world.Event{Kind: node.EEnd, Node: 7, Number: 8})
		is(t, fmt.Sprint(l), want)
		over(l, "!")
		is(t, fmt.Sprint(whole), fmt.Sprint(slices.Repeat([]world.Event{{Kind: node.EEnd, Node: 7, Number: 8}}, n+2)))
	}
}

// A call knows nothing of the calls ahead of it.
func TestP17_6_NothingIsKept(t *testing.T) {
	o, s := usual()
	for range 3 {
		act(t, "link 1 2", world.Act{Kind: world.WLink, Node: 1, N: 2, M: 1})
		act(t, "cut 1 2", world.Act{Kind: world.WLink, Node: 1, N: 2})
		act(t, "swap 1 2 a b c", world.Act{Kind: world.WCall, Client: 1, Node: 2, Op: api.OpSwap, Key: "a", Old: "b", Value: "c"})
		act(t, `swap 0 0 "" "" ""`, world.Act{Kind: world.WCall, Op: api.OpSwap})
		noAct(t, "pick 1 sink", api.ErrWord)
		act(t, "pick 0 send", world.Act{Kind: world.WPick, N: node.PSend})
		opts(t, s, o)
		noOpts(t, s+" 0", api.ErrWords)
		opts(t, "world"+strings.Repeat(" 0", 18), world.Opts{})
	}
}
