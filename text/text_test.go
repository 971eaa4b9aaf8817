package text_test

import (
	"fmt"
	"math"
	"math/rand/v2"
	"slices"
	"testing"

	"synod/api"
	"synod/text"
	"synod/world"
)

// The calls are the chapter's.
var (
	_ func(string) ([]string, api.Errno)   = text.Words
	_ func(string) string                  = text.Quote
	_ func(string) (world.Act, api.Errno)  = text.ParseAct
	_ func(world.Act) (string, api.Errno)  = text.FormatAct
	_ func(string) (world.Opts, api.Errno) = text.ParseOpts
	_ func(world.Opts) string              = text.FormatOpts
	_ func(world.Event) string             = text.FormatEvent
	_ func(world.Told) []string            = text.FormatTold
	_ func(api.Op) string                  = text.FormatOp
	_ func(api.Reply) string               = text.Reply
)

// far are numbers that are far from all that count.
func far() []int {
	return []int{math.MinInt, math.MinInt + 1, -1<<62 - 1, -1 << 62, -8, -1, 1 << 62, 1<<62 + 1, math.MaxInt - 1, math.MaxInt}
}

// one is one of several things.
func one[T any](r *rand.Rand, l ...T) T { return l[r.IntN(len(l))] }

// is holds an answer against the one that the document asks.
func is(t *testing.T, have, want string) {
	t.Helper()
	if have != want {
		t.Errorf("have %s\nwant %s", short(have), short(want))
	}
}

// short is a text of a bearable length.
func short(s string) string {
	if len(s) > 300 {
		return fmt.Sprintf("%q .. (%d bytes)", s[:300], len(s))
	}
	return s
}

// words holds a line against the words that it has.
func words(t *testing.T, line string, want ...string) {
	t.Helper()
	l, e := text.Words(line)
	if e != api.OK || !slices.Equal(l, want) {
		t.Errorf("%s: have %q, %d; want %q", short(line), l, e, want)
	}
}

// noWords holds a line against its error, in all that reads lines.
func noWords(t *testing.T, line string, want api.Errno) {
	t.Helper()
	if l, e := text.Words(line); e != want || len(l) != 0 {
		t.Errorf("%s: have %q, %d; want %d", short(line), l, e, want)
	}
	noAct(t, line, want)
	noOpts(t, line, want)
}

// act holds a line against the act that it is of.
func act(t *testing.T, line string, want world.Act) {
	t.Helper()
	if a, e := text.ParseAct(line); e != api.OK || a != want {
		t.Errorf("%s: have %v, %d; want %v", short(line), a, e, want)
	}
}

// noAct holds a line against ParseAct's error.
func noAct(t *testing.T, line string, want api.Errno) {
	t.Helper()
	if a, e := text.ParseAct(line); e != want || a != (world.Act{}) {
		t.Errorf("%s: have %v, %d; want %d", short(line), a, e, want)
	}
}

// line holds an act against its line, in its plainest form.
func line(t *testing.T, a world.Act, want string) {
	t.Helper()
	if s, e := text.FormatAct(a); e != api.OK || s != want {
		t.Errorf("%v: have %s, %d; want %s", a, short(s), e, short(want))
	}
}

// noLine holds an act against FormatAct's error.
func noLine(t *testing.T, a world.Act, want api.Errno) {
	t.Helper()
	if s, e := text.FormatAct(a); e != want || s != "" {
		t.Errorf("%s: have %s, %d; want %d", short(fmt.Sprint(a)), short(s), e, want)
	}
}

// noOpts holds a line against ParseOpts' error.
func noOpts(t *testing.T, line string, want api.Errno) {
	t.Helper()
	if o, e := text.ParseOpts(line); e != want || o != (world.Opts{}) {
		t.Errorf("%s: have %v, %d; want %d", short(line), o, e, want)
	}
}

// The table of the chapter, line by line.
func TestP17_1_Examples(t *testing.T) {
	words(t, `put  1 2 a "b c"`, "put", "1", "2", "a", "b c")
	noWords(t, `"`, api.ErrForm)
	noWords(t, `a"b"`, api.ErrForm)
	noWords(t, `"a"b`, api.ErrForm)
	words(t, ``)
	is(t, text.Quote("ab"), `ab`)
	is(t, text.Quote(""), `""`)
	is(t, text.Quote("#a"), `"#a"`)
	is(t, text.Quote("a b"), `"a b"`)
	is(t, text.Quote("\x0a"), `"\x0a"`)
	is(t, text.Quote(`a\b`), `a\b`)
}

func TestP17_2_Examples(t *testing.T) {
	act(t, "tick 1 -5", world.Act{Kind: world.WTick, Node: 1, N: -5})
	act(t, "pick 2 sync", world.Act{Kind: world.WPick, Node: 2, N: 7})
	act(t, "cut 1 2", world.Act{Kind: world.WLink, Node: 1, N: 2, M: 0})
	noAct(t, "", api.ErrWord)
	noAct(t, "tick 1", api.ErrWords)
	noAct(t, "tick 01 2", api.ErrNumber)
	noAct(t, "pick 1 sink", api.ErrWord)
	noAct(t, "Tick 1 2", api.ErrWord)
}

func TestP17_3_Examples(t *testing.T) {
	line(t, world.Act{Kind: world.WCall, Client: 1, Node: 2, Op: api.OpSwap, Key: "k", Value: "new", Old: "o d"}, `swap 1 2 k "o d" new`)
	noLine(t, world.Act{Kind: world.WTick, Client: 1}, api.ErrForm)
	noLine(t, world.Act{Kind: 17}, api.ErrKind)
	noLine(t, world.Act{Kind: world.WPick, N: 10}, api.ErrWord)
}

func TestP17_4_Example(t *testing.T) {
	o, e := text.ParseOpts("world 3 2 10 1 8 4 4 100 0 0 4096 8 8 8 8 8 8 0")
	is(t, fmt.Sprint(o, e), "{3 2 {{0 0 10 1 8 4 4 100} 0 0 4096 8 8 8 8 8 8}} 0")
}

func TestP17_5_Examples(t *testing.T) {
	is(t, text.FormatEvent(world.Event{Kind: 8, Client: 1, Node: 2, Reply: api.Reply{Code: api.RDone, Value: "x"}}), "back 1 2 done x")
	is(t, text.FormatEvent(world.Event{Kind: 1, Node: 1, Number: 3}), "send 1 3")
	is(t, text.FormatOp(api.Op{Client: 1, Seq: 1, Kind: api.OpPut, Key: "a", Value: "x", Call: 3, Back: 7, Reply: api.Reply{Code: api.RDone}}), `1 1 put a x "" 3 7 done`)
}
