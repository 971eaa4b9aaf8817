package codec_test

import (
	"fmt"
	"math"
	"math/rand/v2"
	"testing"

	"synod/api"
	"synod/codec"
)

// refused: Check and Put answer the error, and Put nothing beside it.
func refused[T any](t *testing.T, c codec.Codec[T], name string, x T, want api.Errno) {
	t.Helper()
	if e := c.Check(x); e != want {
		t.Errorf("%T, %s: Check: %d, not %d: %s", c, name, e, want, brief(say(x)))
	}
	b, e := c.Put(x)
	if e != want || want != api.OK && len(b) != 0 {
		t.Errorf("%T, %s: Put: %s, %d, not %d", c, name, brief(fmt.Sprintf("%x", b)), e, want)
	}
}

// bound is a number of a thing: from least to most it may be; else it is that error.
type bound[T any] struct {
	name        string
	of          func(x *T) *int
	least, most int
	e           api.Errno
}

// tryBounds holds each number of a right thing to its bounds. The values between the bounds that are tried are those at
// the bounds alone.
func tryBounds[T any](t *testing.T, c codec.Codec[T], right T, list []bound[T]) {
	t.Helper()
	for _, n := range list {
		for _, v := range []struct {
			n int
			e api.Errno
		}{{n.least, api.OK}, {n.most, api.OK}, {n.least - 1, n.e}, {n.most + 1, n.e}, {math.MinInt, n.e}, {math.MaxInt, n.e}, {-1, n.e}} {
			x := right
			*n.of(&x) = v.n
			refused(t, c, fmt.Sprintf("%s %d", n.name, v.n), x, v.e)
		}
	}
}

func TestP3_1_Bounds(t *testing.T) {
	tryBounds(t, entries, api.Entry{Term: 2, Index: 2}, []bound[api.Entry]{
		{"Term", func(x *api.Entry) *int { return &x.Term }, 1, top, api.ErrRange},
		{"Index", func(x *api.Entry) *int { return &x.Index }, 1, top, api.ErrRange},
		{"Kind", func(x *api.Entry) *int { return &x.Kind }, api.EEmpty, api.ECommand, api.ErrKind},
	})
	tryBounds(t, states, api.State{Term: 2}, []bound[api.State]{
		{"Term", func(x *api.State) *int { return &x.Term }, 0, top, api.ErrRange},
		{"Vote", func(x *api.State) *int { return &x.Vote }, 0, api.MaxNodes, api.ErrRange},
		{"Commit", func(x *api.State) *int { return &x.Commit }, 0, top, api.ErrRange},
	})
	tryBounds(t, snaps, api.Snap{Index: 2, Term: 2}, []bound[api.Snap]{
		{"Index", func(x *api.Snap) *int { return &x.Index }, 1, top, api.ErrRange},
		{"Term", func(x *api.Snap) *int { return &x.Term }, 1, top, api.ErrRange},
	})
	tryBounds(t, commands, api.Command{Op: api.OpPut, Client: 2, Seq: 2, Key: "k"}, []bound[api.Command]{
		{"Op", func(x *api.Command) *int { return &x.Op }, api.OpPut, api.OpSwap, api.ErrKind},
		{"Client", func(x *api.Command) *int { return &x.Client }, 1, top, api.ErrRange},
		{"Seq", func(x *api.Command) *int { return &x.Seq }, 1, top, api.ErrRange},
	})
	tryBounds(t, replies, api.Reply{Code: 2}, []bound[api.Reply]{
		{"Code", func(x *api.Reply) *int { return &x.Code }, api.RDone, api.RDown, api.ErrKind},
	})
}

// heads are the numbers that each kind of message has.
func heads() []bound[api.Message] {
	return []bound[api.Message]{
		{"From", func(x *api.Message) *int { return &x.From }, 1, api.MaxNodes, api.ErrRange},
		{"Term", func(x *api.Message) *int { return &x.Term }, 1, top, api.ErrRange},
	}
}

var (
	toOf      = bound[api.Message]{"To", func(x *api.Message) *int { return &x.To }, 1, api.MaxNodes, api.ErrRange}
	indexOf   = bound[api.Message]{"Index", func(x *api.Message) *int { return &x.Index }, 0, top, api.ErrRange}
	logTermOf = bound[api.Message]{"LogTerm", func(x *api.Message) *int { return &x.LogTerm }, 0, top, api.ErrRange}
	commitOf  = bound[api.Message]{"Commit", func(x *api.Message) *int { return &x.Commit }, 0, top, api.ErrRange}
	hintOf    = bound[api.Message]{"Hint", func(x *api.Message) *int { return &x.Hint }, 0, top, api.ErrRange}
	ctxOf     = bound[api.Message]{"Ctx", func(x *api.Message) *int { return &x.Ctx }, 0, top, api.ErrRange}
)

// rights is a right message of each kind: From may be all but 4, Term all from 1 on.
func rights() []api.Message {
	return []api.Message{
		api.MVote:    {Kind: api.MVote, From: 2, To: 4, Term: 3},
		api.MVoteAns: {Kind: api.MVoteAns, From: 2, To: 4, Term: 3},
		api.MApp:     {Kind: api.MApp, From: 2, To: 4, Term: 3},
		api.MAppAns:  {Kind: api.MAppAns, From: 2, To: 4, Term: 3, Reject: true},
		api.MBeat:    {Kind: api.MBeat, From: 2, To: 4, Term: 3},
		api.MBeatAns: {Kind: api.MBeatAns, From: 2, To: 4, Term: 3},
		api.MSnap:    {Kind: api.MSnap, From: 2, To: 4, Term: 3, Snap: api.Snap{Index: 1, Term: 1}},
	}
}

func TestP3_1_MessageBounds(t *testing.T) {
	for _, x := range rights()[api.MVote:] {
		tryBounds(t, messages, x, heads())
		x.From = 4
		x.To = 2
		tryBounds(t, messages, x, []bound[api.Message]{toOf})
		// Out of range goes ahead of what the kind does not use.
		for _, n := range []bound[api.Message]{indexOf, logTermOf, commitOf, hintOf, ctxOf} {
			for _, v := range []int{-1, math.MinInt, top + 1, math.MaxInt} {
				y := x
				*n.of(&y) = v
				refused(t, messages, n.name, y, api.ErrRange)
			}
		}
		for _, v := range []int{0, -1, 8, math.MinInt, math.MaxInt} {
			y := x
			y.Kind = v
			refused(t, messages, "Kind", y, api.ErrKind)
		}
	}
	place := api.Message{Kind: api.MVote, From: 2, To: 4, Term: top, Index: 1, LogTerm: 1}
	for _, n := range []int{1, 2, top - 1, top} {
		place.Kind, place.Index, place.LogTerm = api.MVote, n, 1
		refused(t, messages, "a vote's Index", place, api.OK)
		place.Kind = api.MApp
		refused(t, messages, "an append's Index", place, api.OK)
		place.Index, place.LogTerm = 1, n
		refused(t, messages, "an append's LogTerm", place, api.OK)
		place.Kind, place.LogTerm = api.MVote, n-1
		place.Index = min(place.LogTerm, 1)
		refused(t, messages, "a vote's LogTerm", place, api.OK)
	}
	tryBounds(t, messages, rights()[api.MApp], []bound[api.Message]{commitOf})
	tryBounds(t, messages, rights()[api.MAppAns], []bound[api.Message]{indexOf, hintOf})
	tryBounds(t, messages, rights()[api.MBeat], []bound[api.Message]{commitOf, ctxOf})
	tryBounds(t, messages, rights()[api.MBeatAns], []bound[api.Message]{ctxOf})
}

func TestP3_1_Lengths(t *testing.T) {
	for _, x := range []struct {
		n int
		e api.Errno
	}{{0, api.OK}, {1, api.OK}, {api.MaxData, api.OK}, {api.MaxData + 1, api.ErrLong}, {3 * api.MaxData, api.ErrLong}} {
		refused(t, entries, fmt.Sprintf("%d bytes", x.n), api.Entry{Term: 1, Index: 1, Kind: api.ECommand, Data: many(x.n)}, x.e)
	}
	for _, x := range []struct {
		n int
		e api.Errno
	}{{0, api.OK}, {1, api.OK}, {api.MaxSnap, api.OK}, {api.MaxSnap + 1, api.ErrLong}, {3 * api.MaxSnap, api.ErrLong}} {
		snap := api.Snap{Index: 1, Term: 1, Data: many(x.n)}
		refused(t, snaps, fmt.Sprintf("%d bytes", x.n), snap, x.e)
		refused(t, messages, fmt.Sprintf("%d bytes", x.n), api.Message{Kind: api.MSnap, From: 1, To: 2, Term: 1, Snap: snap}, x.e)
	}
	for _, x := range []struct {
		n int
		e api.Errno
	}{{1, api.OK}, {api.MaxKey, api.OK}, {api.MaxKey + 1, api.ErrLong}, {0, api.ErrForm}} {
		for op := api.OpPut; op <= api.OpSwap; op++ {
			refused(t, commands, fmt.Sprintf("a key of %d", x.n), api.Command{Op: op, Client: 1, Seq: 1, Key: letters(x.n)}, x.e)
		}
	}
	for _, x := range []struct {
		n int
		e api.Errno
	}{{0, api.OK}, {1, api.OK}, {api.MaxValue, api.OK}, {api.MaxValue + 1, api.ErrLong}} {
		name := fmt.Sprintf("a value of %d", x.n)
		refused(t, commands, name, api.Command{Op: api.OpPut, Client: 1, Seq: 1, Key: "k", Value: letters(x.n)}, x.e)
		refused(t, commands, name, api.Command{Op: api.OpSwap, Client: 1, Seq: 1, Key: "k", Value: letters(x.n)}, x.e)
		refused(t, commands, name, api.Command{Op: api.OpSwap, Client: 1, Seq: 1, Key: "k", Old: letters(x.n)}, x.e)
		for code := api.RDone; code <= api.RDown; code++ {
			refused(t, replies, name, api.Reply{Code: code, Value: letters(x.n)}, x.e)
		}
	}
}

func TestP3_1_WrongThings(t *testing.T) {
	for i, x := range []struct {
		x api.Entry
		e api.Errno
	}{
		{api.Entry{}, api.ErrRange},
		{api.Entry{Term: 1, Index: 1, Data: []byte("a")}, api.ErrForm},
		{api.Entry{Term: 1, Index: 1, Data: many(api.MaxData)}, api.ErrForm},
		{api.Entry{Term: 1, Index: 1, Data: many(api.MaxData + 1)}, api.ErrLong},
		{api.Entry{Term: 1, Index: 1, Kind: 2, Data: many(api.MaxData + 1)}, api.ErrKind},
		{api.Entry{Term: 1, Index: 0, Kind: 2, Data: many(api.MaxData + 1)}, api.ErrRange},
		{api.Entry{Term: top + 1, Index: 1, Kind: -1}, api.ErrRange},
	} {
		refused(t, entries, fmt.Sprint(i), x.x, x.e)
	}
	for i, x := range []struct {
		x api.State
		e api.Errno
	}{
		{api.State{Vote: 1}, api.ErrForm},
		{api.State{Vote: 7, Commit: 1}, api.ErrForm},
		{api.State{Vote: 8}, api.ErrRange},
		{api.State{Vote: 1, Commit: -1}, api.ErrRange},
		{api.State{Commit: 9}, api.OK},
	} {
		refused(t, states, fmt.Sprint(i), x.x, x.e)
	}
	for i, x := range []struct {
		x api.Snap
		e api.Errno
	}{
		{api.Snap{}, api.OK},
		{api.Snap{Data: []byte{}}, api.OK},
		{api.Snap{Data: []byte{0}}, api.ErrRange},
		{api.Snap{Data: many(api.MaxSnap + 1)}, api.ErrRange},
		{api.Snap{Index: 1}, api.ErrRange},
		{api.Snap{Term: 1}, api.ErrRange},
		{api.Snap{Index: -1, Term: 1, Data: many(api.MaxSnap + 1)}, api.ErrRange},
	} {
		refused(t, snaps, fmt.Sprint(i), x.x, x.e)
	}
	tooLong, tooMuch := letters(api.MaxKey+1), letters(api.MaxValue+1)
	for i, x := range []struct {
		x api.Command
		e api.Errno
	}{
		{api.Command{}, api.ErrKind},
		{api.Command{Op: api.OpGet, Client: 1, Seq: 1, Key: "k"}, api.ErrKind},
		{api.Command{Op: api.OpGet, Client: 0, Seq: 0, Key: tooLong}, api.ErrKind},
		{api.Command{Op: api.OpPut, Client: 0, Seq: 1, Key: tooLong}, api.ErrRange},
		{api.Command{Op: api.OpPut, Client: 1, Seq: 0}, api.ErrRange},
		{api.Command{Op: api.OpDelete, Client: 1, Seq: 1, Key: tooLong, Value: "v"}, api.ErrLong},
		{api.Command{Op: api.OpPut, Client: 1, Seq: 1, Value: tooMuch}, api.ErrLong},
		{api.Command{Op: api.OpPut, Client: 1, Seq: 1, Key: "k", Old: tooMuch}, api.ErrLong},
		{api.Command{Op: api.OpDelete, Client: 1, Seq: 1, Key: "k", Value: tooMuch}, api.ErrLong},
		{api.Command{Op: api.OpDelete, Client: 1, Seq: 1, Key: "k", Old: tooMuch}, api.ErrLong},
		{api.Command{Op: api.OpDelete, Client: 1, Seq: 1, Key: "k", Value: "v"}, api.ErrForm},
		{api.Command{Op: api.OpDelete, Client: 1, Seq: 1, Key: "k", Old: "o"}, api.ErrForm},
		{api.Command{Op: api.OpPut, Client: 1, Seq: 1, Key: "k", Value: "v", Old: "o"}, api.ErrForm},
		{api.Command{Op: api.OpSwap, Client: 1, Seq: 1, Value: "v", Old: "o"}, api.ErrForm},
	} {
		refused(t, commands, fmt.Sprint(i), x.x, x.e)
	}
	refused(t, replies, "a wrong code, a long value", api.Reply{Value: tooMuch}, api.ErrKind)
}

// in is a number of entries from an index on, all of one term.
func in(n, index, term int) []api.Entry {
	l := make([]api.Entry, n)
	for i := range l {
		l[i] = api.Entry{Term: term, Index: index + i}
	}
	return l
}

func TestP3_1_WrongMessages(t *testing.T) {
	app := func(do func(x *api.Message)) api.Message {
		x := api.Message{Kind: api.MApp, From: 1, To: 2, Term: 5, Index: 3, LogTerm: 2}
		do(&x)
		return x
	}
	long := api.Entry{Term: 2, Index: 4, Kind: api.ECommand, Data: many(api.MaxData + 1)}
	for i, x := range []struct {
		x api.Message
		e api.Errno
	}{
		{api.Message{}, api.ErrKind},
		{app(func(x *api.Message) { x.Kind, x.From, x.Ctx = 8, 0, 1 }), api.ErrKind},
		{app(func(x *api.Message) { x.To, x.From = 9, 9 }), api.ErrRange},
		{app(func(x *api.Message) { x.Ctx, x.Reject = -1, true }), api.ErrRange},
		{app(func(x *api.Message) { x.To = 1 }), api.ErrForm},
		{app(func(x *api.Message) { x.To, x.Entries = 1, make([]api.Entry, 65) }), api.ErrForm},
		{app(func(x *api.Message) { x.Ctx, x.Entries = 1, make([]api.Entry, 65) }), api.ErrForm},
		{app(func(x *api.Message) { x.Entries = in(64, 4, 2) }), api.OK},
		{app(func(x *api.Message) { x.Entries = in(65, 4, 2) }), api.ErrLong},
		{app(func(x *api.Message) { x.Entries = make([]api.Entry, 65) }), api.ErrLong},
		{app(func(x *api.Message) { x.Entries, x.LogTerm = make([]api.Entry, 64), 6 }), api.ErrRange},
		{app(func(x *api.Message) { x.Entries = []api.Entry{{Term: 9, Index: 9, Kind: 3}} }), api.ErrKind},
		{app(func(x *api.Message) { x.Entries = []api.Entry{{Term: 9, Index: 9}, long} }), api.ErrLong},
		{app(func(x *api.Message) { x.Entries = []api.Entry{{Term: 9, Index: 9}, {Term: 1, Index: 1, Kind: 2}, long} }), api.ErrKind},
		{app(func(x *api.Message) { x.Entries = []api.Entry{{Term: 2, Index: 4, Data: []byte("a")}, long} }), api.ErrForm},
		{app(func(x *api.Message) { x.LogTerm = 5 }), api.OK},
		{app(func(x *api.Message) { x.LogTerm = 6 }), api.ErrForm},
		{app(func(x *api.Message) { x.LogTerm = 0 }), api.ErrForm},
		{app(func(x *api.Message) { x.Index = 0 }), api.ErrForm},
		{app(func(x *api.Message) { x.Index, x.LogTerm = 0, 0 }), api.OK},
		{app(func(x *api.Message) { x.Index, x.LogTerm, x.Entries = 0, 0, in(1, 1, 1) }), api.OK},
		{app(func(x *api.Message) { x.Index, x.LogTerm, x.Entries = 0, 0, in(1, 2, 1) }), api.ErrForm},
		{app(func(x *api.Message) { x.Entries = in(2, 4, 5) }), api.OK},
		{app(func(x *api.Message) { x.Entries = in(2, 5, 2) }), api.ErrForm},
		{app(func(x *api.Message) { x.Entries = in(2, 3, 2) }), api.ErrForm},
		{app(func(x *api.Message) { x.Entries = []api.Entry{{Term: 2, Index: 4}, {Term: 2, Index: 4}} }), api.ErrForm},
		{app(func(x *api.Message) { x.Entries = []api.Entry{{Term: 2, Index: 4}, {Term: 2, Index: 6}} }), api.ErrForm},
		{app(func(x *api.Message) { x.Entries = in(1, 4, 1) }), api.ErrForm},
		{app(func(x *api.Message) { x.Entries = in(1, 4, 6) }), api.ErrForm},
		{app(func(x *api.Message) { x.Entries = []api.Entry{{Term: 4, Index: 4}, {Term: 3, Index: 5}} }), api.ErrForm},
		{app(func(x *api.Message) { x.Entries = []api.Entry{{Term: 3, Index: 4}, {Term: 6, Index: 5}} }), api.ErrForm},
		{app(func(x *api.Message) { x.Index, x.Entries = top, in(1, 1, 2) }), api.ErrForm},
		{app(func(x *api.Message) { x.Index, x.Entries = top-1, in(1, top, 2) }), api.OK},
		{app(func(x *api.Message) { x.Index, x.Entries = top-1, in(2, top, 2) }), api.ErrRange},
		{api.Message{Kind: api.MVote, From: 1, To: 2, Term: 3, Index: 1, LogTerm: 2}, api.OK},
		{api.Message{Kind: api.MVote, From: 1, To: 2, Term: 3, Index: 1, LogTerm: 3}, api.ErrForm},
		{api.Message{Kind: api.MVote, From: 1, To: 2, Term: 3, Index: 1, LogTerm: 4}, api.ErrForm},
		{api.Message{Kind: api.MVote, From: 1, To: 2, Term: 3, Index: 1}, api.ErrForm},
		{api.Message{Kind: api.MVote, From: 1, To: 2, Term: 3, LogTerm: 1}, api.ErrForm},
		{api.Message{Kind: api.MAppAns, From: 1, To: 2, Term: 3, Hint: 1}, api.ErrForm},
		{api.Message{Kind: api.MAppAns, From: 1, To: 2, Term: 3, Hint: 1, Reject: true}, api.OK},
		{api.Message{Kind: api.MAppAns, From: 1, To: 2, Term: 3, Index: 9, Reject: true}, api.OK},
		{api.Message{Kind: api.MSnap, From: 1, To: 2, Term: 3}, api.ErrForm},
		{api.Message{Kind: api.MSnap, From: 1, To: 2, Term: 3, Snap: api.Snap{Data: []byte{}}}, api.ErrForm},
		{api.Message{Kind: api.MSnap, From: 1, To: 2, Term: 3, Snap: api.Snap{Index: 1, Term: 3}}, api.OK},
		{api.Message{Kind: api.MSnap, From: 1, To: 2, Term: 3, Snap: api.Snap{Index: 1, Term: 4}}, api.ErrForm},
		{api.Message{Kind: api.MSnap, From: 1, To: 2, Term: 3, Snap: api.Snap{Index: 1}}, api.ErrRange},
		{api.Message{Kind: api.MSnap, From: 1, To: 2, Term: 3, Snap: api.Snap{Data: []byte{1}}}, api.ErrRange},
		{api.Message{Kind: api.MSnap, From: 1, To: 2, Term: 3, Snap: api.Snap{Index: 1, Term: 4, Data: many(api.MaxSnap + 1)}}, api.ErrLong},
		{api.Message{Kind: api.MSnap, From: 1, To: 2, Term: 3, Reject: true, Snap: api.Snap{Index: 1}}, api.ErrForm},
	} {
		refused(t, messages, fmt.Sprint(i), x.x, x.e)
	}
}

// uses is the fields that a kind of message uses, by the letters of fill.
func uses(kind int) string { return []string{"", "il", "r", "ilce", "irh", "cx", "x", "s"}[kind] }

// fill sets the field of a letter to something.
func fill(x *api.Message, field rune) {
	switch field {
	case 'i':
		x.Index = 1
	case 'l':
		x.LogTerm = 1
	case 'c':
		x.Commit = 1
	case 'h':
		x.Hint = 1
	case 'x':
		x.Ctx = 1
	case 'r':
		x.Reject = true
	case 'e':
		x.Entries = in(1, 1, 1)
	case 's':
		x.Snap.Index, x.Snap.Term = 1, 1
	}
}

func TestP3_1_Unused(t *testing.T) {
	for kind := api.MVote; kind <= api.MSnap; kind++ {
		right := api.Message{Kind: kind, From: 1, To: 2, Term: 2}
		for _, field := range uses(kind) {
			fill(&right, field)
		}
		if kind == api.MApp {
			right.Entries[0].Index = 2
		}
		refused(t, messages, fmt.Sprintf("kind %d", kind), right, api.OK)
		for _, field := range "ilchxres" {
			x := right
			fill(&x, field)
			e := api.ErrForm
			for _, used := range uses(kind) {
				if used == field {
					x, e = right, api.OK
				}
			}
			refused(t, messages, fmt.Sprintf("kind %d with %c", kind, field), x, e)
		}
		// Lists that are empty are none, whichever way.
		x := right
		if kind != api.MApp {
			x.Entries = []api.Entry{}
		}
		if kind != api.MSnap {
			x.Snap.Data = []byte{}
		}
		refused(t, messages, fmt.Sprintf("kind %d with empty lists", kind), x, api.OK)
		if kind != api.MSnap {
			for _, snap := range []api.Snap{{Index: 1}, {Index: -1}, {Term: 1}, {Term: top + 1}, {Data: []byte{0}}, {Data: many(api.MaxSnap + 1)}} {
				x := right
				x.Snap = snap
				refused(t, messages, fmt.Sprintf("kind %d with a snapshot", kind), x, api.ErrForm)
			}
		}
		if kind != api.MApp {
			for _, n := range []int{1, 64, 65} {
				x := right
				x.Entries = make([]api.Entry, n)
				refused(t, messages, fmt.Sprintf("kind %d with entries", kind), x, api.ErrForm)
			}
		}
	}
}

// first is the first error that holds.
func first(list ...fault) api.Errno {
	for _, f := range list {
		if f.holds {
			return f.e
		}
	}
	return api.OK
}

type fault struct {
	e     api.Errno
	holds bool
}

func out(least, most int, list ...int) bool {
	for _, n := range list {
		if n < least || n > most {
			return true
		}
	}
	return false
}

// wrongEntry, wrongSnap and wrongMessage are the rows of the chapter's table, fault by fault.
func wrongEntry(x api.Entry) api.Errno {
	return first(
		fault{api.ErrRange, out(1, top, x.Term, x.Index)},
		fault{api.ErrKind, out(0, 1, x.Kind)},
		fault{api.ErrLong, len(x.Data) > 4096},
		fault{api.ErrForm, x.Kind == 0 && len(x.Data) != 0})
}

func wrongSnap(x api.Snap) api.Errno {
	if x.Index == 0 && x.Term == 0 && len(x.Data) == 0 {
		return api.OK
	}
	return first(fault{api.ErrRange, out(1, top, x.Index, x.Term)}, fault{api.ErrLong, len(x.Data) > 1<<19})
}

func wrongMessage(x api.Message) api.Errno {
	if e := first(
		fault{api.ErrKind, out(1, 7, x.Kind)},
		fault{api.ErrRange, out(1, 7, x.From, x.To) || out(1, top, x.Term) || out(0, top, x.Index, x.LogTerm, x.Commit, x.Hint, x.Ctx)},
		fault{api.ErrForm, x.From == x.To},
	); e != api.OK {
		return e
	}
	said := map[rune]int{'i': x.Index, 'l': x.LogTerm, 'c': x.Commit, 'h': x.Hint, 'x': x.Ctx, 'e': len(x.Entries), 's': x.Snap.Index | x.Snap.Term | len(x.Snap.Data)}
	if x.Reject {
		said['r'] = 1
	}
	for _, used := range uses(x.Kind) {
		delete(said, used)
	}
	for _, n := range said {
		if n != 0 {
			return api.ErrForm
		}
	}
	half := x.LogTerm == 0 && x.Index != 0 || x.LogTerm != 0 && x.Index == 0
	switch x.Kind {
	case 1:
		return first(fault{api.ErrForm, x.LogTerm >= x.Term || half})
	case 3:
		return wrongApp(x, half)
	case 4:
		return first(fault{api.ErrForm, x.Hint != 0 && !x.Reject})
	case 7:
		return first(fault{wrongSnap(x.Snap), wrongSnap(x.Snap) != api.OK}, fault{api.ErrForm, x.Snap.Index == 0 || x.Snap.Term > x.Term})
	}
	return api.OK
}

func wrongApp(x api.Message, half bool) api.Errno {
	if len(x.Entries) > 64 {
		return api.ErrLong
	}
	at, term, broken := x.Index, x.LogTerm, false
	for _, entry := range x.Entries {
		if e := wrongEntry(entry); e != api.OK {
			return e
		}
		broken = broken || entry.Index-at != 1 || entry.Term < term
		at, term = entry.Index, entry.Term
	}
	return first(fault{api.ErrForm, x.LogTerm > x.Term || term > x.Term || half || broken})
}

// any of the numbers that lie at an edge, and mostly those that may be.
func anyNumber(pick *rand.Rand) int {
	if pick.IntN(40) > 0 {
		return pick.IntN(4)
	}
	return []int{-1, math.MinInt, 7, 8, top - 1, top, top + 1, math.MaxInt}[pick.IntN(8)]
}

func anyEntries(pick *rand.Rand, index int) []api.Entry {
	n := pick.IntN(4)
	if pick.IntN(20) == 0 {
		n = 63 + pick.IntN(3)
	}
	l := in(n, 0, 1+pick.IntN(2))
	for i := range l {
		l[i].Index = index + 1 + i
		if n < 4 && pick.IntN(8) == 0 {
			l[i] = api.Entry{Term: anyNumber(pick), Index: anyNumber(pick), Kind: anyNumber(pick), Data: many(pick.IntN(2))}
		}
	}
	return l
}

func anyMessage(pick *rand.Rand) api.Message {
	x := api.Message{Kind: pick.IntN(9), From: 1 + pick.IntN(3), To: 1 + pick.IntN(3), Term: 1 + pick.IntN(3)}
	for _, field := range []*int{&x.Kind, &x.From, &x.To, &x.Term} {
		if pick.IntN(50) == 0 {
			*field = anyNumber(pick)
		}
	}
	used := "ilchxres"
	if x.Kind >= 1 && x.Kind <= 7 {
		used = uses(x.Kind) + "ilchxres"[:pick.IntN(9)*pick.IntN(2)*pick.IntN(2)]
	}
	for _, field := range used {
		switch field {
		case 'i':
			x.Index = anyNumber(pick)
		case 'l':
			x.LogTerm = anyNumber(pick)
		case 'c':
			x.Commit = anyNumber(pick)
		case 'h':
			x.Hint = anyNumber(pick)
		case 'x':
			x.Ctx = anyNumber(pick)
		case 'r':
			x.Reject = pick.IntN(2) == 0
		case 'e':
			x.Entries = anyEntries(pick, x.Index&(1<<62-1))
		case 's':
			x.Snap = api.Snap{Index: anyNumber(pick), Term: anyNumber(pick), Data: many(pick.IntN(2))}
		}
	}
	return x
}

func TestP3_1_AnyMessage(t *testing.T) {
	pick := rand.New(rand.NewPCG(3, 1))
	seen := map[[2]int]int{}
	for range 60000 {
		x := anyMessage(pick)
		want := wrongMessage(x)
		refused(t, messages, "any", x, want)
		if x.Kind >= 1 && x.Kind <= 7 {
			seen[[2]int{x.Kind, int(want)}]++
		}
	}
	for kind := api.MVote; kind <= api.MSnap; kind++ {
		for _, e := range []api.Errno{api.OK, api.ErrRange, api.ErrForm} {
			if seen[[2]int{kind, int(e)}] < 20 {
				t.Errorf("kind %d, error %d: seen but %d times", kind, e, seen[[2]int{kind, int(e)}])
			}
		}
	}
	if seen[[2]int{api.MApp, int(api.ErrLong)}] < 20 || seen[[2]int{api.MApp, int(api.ErrKind)}] < 20 {
		t.Errorf("too few appends with entries that may not be: %v", seen)
	}
}
