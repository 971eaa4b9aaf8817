package text_test

import (
	"fmt"
	"math/rand/v2"
	"slices"
	"strings"
	"testing"

	"synod/api"
	"synod/core"
	"synod/node"
	"synod/text"
	"synod/world"
)

func TestP17_7_ActsThereAndBack(t *testing.T) {
	r := rand.New(rand.NewPCG(17, 7))
	for range 50000 {
		a := anyAct(r)
		s, e := text.FormatAct(a)
		if e != api.OK {
			t.Fatalf("%v: %d", a, e)
		}
		b, e := text.ParseAct(s)
		if e != api.OK || b != a {
			t.Fatalf("%v: %s: %v, %d", a, s, b, e)
		}
	}
}

// Whatever act has a line, that line is the act's; whatever line has an act, the act has a line, if that isn't too long.
func TestP17_7_WhateverHasOne(t *testing.T) {
	r := rand.New(rand.NewPCG(17, 70))
	for range 50000 {
		a := world.Act{Kind: r.IntN(18), Node: wildNumber(r), Client: wildNumber(r), N: wildNumber(r), M: wildNumber(r), Op: r.IntN(6)}
		if s, e := text.FormatAct(a); e == api.OK {
			act(t, s, a)
		}
		words := strings.Fields(one(r, table()...).line)
		for i := range words[1:] {
			words[1+i] = one(r, fmt.Sprint(anyNumber(r)), "sync", `"sync"`, `"1"`, text.Quote(anyText(r, 5)))
		}
		b, e := text.ParseAct(strings.Join(words, "  "))
		if e != api.OK {
			continue
		}
		s, e := text.FormatAct(b)
		if e != api.OK {
			t.Fatalf("%v: %v: %d", words, b, e)
		}
		act(t, s, b)
		line(t, b, s)
	}
}

// The longest lines, there and back.
func TestP17_7_LongLines(t *testing.T) {
	for _, part := range []string{"k", "#", " ", "\x00", "\\", "\""} {
		n := 0
		for size := range api.MaxLine {
			a := world.Act{Kind: world.WCall, Op: api.OpPut, Key: "a", Value: strings.Repeat(part, size)}
			s, e := text.FormatAct(a)
			if e == api.OK {
				act(t, s, a)
				n = len(s)
			} else if e != api.ErrLong || n < api.MaxLine-4 {
				t.Fatalf("%q %d times: %d", part, size, e)
			}
		}
	}
}

func TestP17_7_WordsThereAndBack(t *testing.T) {
	r := rand.New(rand.NewPCG(17, 71))
	for range 20000 {
		var held, quoted []string
		for range r.IntN(8) {
			held = append(held, anyText(r, 10))
			quoted = append(quoted, text.Quote(held[len(held)-1]))
		}
		words(t, strings.Join(quoted, " "), held...)
	}
}

func TestP17_7_OptsThereAndBack(t *testing.T) {
	r := rand.New(rand.NewPCG(17, 72))
	n := func() int { return anyNumber(r) }
	for range 5000 {
		o := world.Opts{Nodes: n(), Clients: n(), Node: node.Opts{
			Core:  core.Opts{Election: n(), Beat: n(), Batch: n(), Window: n(), Reads: n(), Pending: n()},
			Every: n(), Keep: n(), Segment: n(), Inbox: n(), Ticks: n(), Calls: n(), Jobs: n(), Applies: n(), Out: n(),
		}}
		opts(t, text.FormatOpts(o), o)
		with := o
		with.Node.Core.ID, with.Node.Core.Nodes = n(), n()
		opts(t, text.FormatOpts(with), o)
		o.Clients = one(r, 1<<62+1, -1<<62-1, far()[0], far()[len(far())-1])
		noOpts(t, text.FormatOpts(o), api.ErrNumber)
	}
}

// spread lays more blanks where there are blanks, and ahead and behind.
func spread(r *rand.Rand, l []string) string {
	blanks := func(least int) string { return strings.Repeat(" ", least+r.IntN(5)) }
	s := blanks(0)
	for i, word := range l {
		if i > 0 {
			s += blanks(1)
		}
		s += word
	}
	return s + blanks(0)
}

func TestP17_8_Blanks(t *testing.T) {
	r := rand.New(rand.NewPCG(17, 8))
	for range 20000 {
		l := strings.Fields(one(r, table()...).line)
		if r.IntN(3) == 0 {
			_, s := usual()
			l = strings.Fields(s)
		}
		for i := range l {
			if i > 0 && r.IntN(8) != 0 {
				l[i] = fmt.Sprint(i)
			}
			if r.IntN(20) == 0 {
				l[i] = one(r, text.Quote(anyText(r, 4)), "\t", `"a"b`, `a"`, `" "`, "#")
			}
		}
		plain, wide := strings.Join(l, " "), spread(r, l)
		have, e := text.Words(wide)
		want, f := text.Words(plain)
		if e != f || !slices.Equal(have, want) {
			t.Fatalf("%q: have %q, %d; want %q, %d", wide, have, e, want, f)
		}
		a, e := text.ParseAct(wide)
		b, f := text.ParseAct(plain)
		if a != b || e != f {
			t.Fatalf("%q: have %v, %d; want %v, %d", wide, a, e, b, f)
		}
		o, e := text.ParseOpts(wide)
		p, f := text.ParseOpts(plain)
		if o != p || e != f {
			t.Fatalf("%q: have %v, %d; want %v, %d", wide, o, e, p, f)
		}
	}
}

// Only the length counts: up to MaxLine with all blanks.
func TestP17_8_TheLengthCounts(t *testing.T) {
	o, s := usual()
	for _, at := range []int{0, 5, len(s)} {
		wide := func(n int) string { return s[:at] + strings.Repeat(" ", n-len(s)) + s[at:] }
		opts(t, wide(api.MaxLine), o)
		noOpts(t, wide(api.MaxLine+1), api.ErrLong)
	}
	want := world.Act{Kind: world.WStop, Node: 3}
	for _, at := range []int{0, 4, 6} {
		wide := func(n int) string { return "stop 3"[:at] + strings.Repeat(" ", n-6) + "stop 3"[at:] }
		act(t, wide(api.MaxLine), want)
		noAct(t, wide(api.MaxLine+1), api.ErrLong)
	}
}

// Nothing but the blank is one.
func TestP17_8_OtherSpaces(t *testing.T) {
	for _, s := range []string{"\t", "\n", "\r", "\v", "\f", "\x00", "\u00a0", "\u2003", "\x85"} {
		noWords(t, "stop"+s+"3", api.ErrForm)
		noWords(t, "stop 3"+s, api.ErrForm)
		noWords(t, s+"stop 3", api.ErrForm)
		noWords(t, s, api.ErrForm)
	}
}
