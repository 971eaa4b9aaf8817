package core_test

import (
	"fmt"
	"math"
	"strconv"
	"strings"
	"testing"

	"synod/api"
	"synod/core"
)

const top = api.MaxIndex

// far are ints that lie far out of range.
func far() []int {
	return []int{math.MinInt, math.MinInt + 1, -top, -8, -1, top + 1, 2*top - 1, math.MaxInt - 1, math.MaxInt}
}

// say is anything as text, with a blank between.
func say(x ...any) string { return strings.TrimSuffix(fmt.Sprintln(x...), "\n") }

// is holds an answer against the one that the document asks.
func is(t *testing.T, have, want any) {
	t.Helper()
	if say(have) != say(want) {
		t.Errorf("have %v\nwant %v", have, want)
	}
}

// empty is an entry without data, command one with.
func empty(term, index int) api.Entry { return api.Entry{Term: term, Index: index} }

func command(term, index int, data string) api.Entry {
	return api.Entry{Term: term, Index: index, Kind: api.ECommand, Data: []byte(data)}
}

// of is empty entries from an index on, of these terms.
func of(index int, terms ...int) []api.Entry {
	var l []api.Entry
	for i, term := range terms {
		l = append(l, empty(term, index+i))
	}
	return l
}

// many is a number of entries from an index on, all of one term.
func many(n, term, index int) []api.Entry {
	l := make([]api.Entry, n)
	for i := range l {
		l[i] = empty(term, index+i)
	}
	return l
}

func snapOf(index, term int, data string) api.Snap {
	return api.Snap{Index: index, Term: term, Data: []byte(data)}
}

// The messages of each kind.
func vote(from, to, term, index, logTerm int) api.Message {
	return api.Message{Kind: api.MVote, From: from, To: to, Term: term, Index: index, LogTerm: logTerm}
}

func voteYes(from, to, term int) api.Message {
	return api.Message{Kind: api.MVoteAns, From: from, To: to, Term: term}
}

func voteNo(from, to, term int) api.Message {
	return api.Message{Kind: api.MVoteAns, From: from, To: to, Term: term, Reject: true}
}

func app(from, to, term, index, logTerm, commit int, entries ...api.Entry) api.Message {
	return api.Message{Kind: api.MApp, From: from, To: to, Term: term, Index: index, LogTerm: logTerm, Commit: commit, Entries: entries}
}

func appYes(from, to, term, index int) api.Message {
	return api.Message{Kind: api.MAppAns, From: from, To: to, Term: term, Index: index}
}

func appNo(from, to, term, index, hint int) api.Message {
	return api.Message{Kind: api.MAppAns, From: from, To: to, Term: term, Index: index, Reject: true, Hint: hint}
}

func beat(from, to, term, commit, ctx int) api.Message {
	return api.Message{Kind: api.MBeat, From: from, To: to, Term: term, Commit: commit, Ctx: ctx}
}

func beatAns(from, to, term, ctx int) api.Message {
	return api.Message{Kind: api.MBeatAns, From: from, To: to, Term: term, Ctx: ctx}
}

func snapMsg(from, to, term int, s api.Snap) api.Message {
	return api.Message{Kind: api.MSnap, From: from, To: to, Term: term, Snap: s}
}

// shown is entries as text: index and term, and the data of commands.
func shown(l []api.Entry) string {
	var b []byte
	for i, e := range l {
		if i > 0 {
			b = append(b, ' ')
		}
		b = append(strconv.AppendInt(b, int64(e.Index), 10), '/')
		b = strconv.AppendInt(b, int64(e.Term), 10)
		if e.Kind != api.EEmpty || len(e.Data) > 0 {
			b = append(append(b, '='), e.Data...)
		}
		if e.Kind != api.EEmpty && e.Kind != api.ECommand {
			b = strconv.AppendInt(append(b, " kind "...), int64(e.Kind), 10)
		}
	}
	return string(b)
}

func shownSnap(s api.Snap) string { return fmt.Sprintf("%d/%d=%s", s.Index, s.Term, s.Data) }

// shownMessage is a message as text: all of it that is not zero.
func shownMessage(m api.Message) string {
	names := []string{"", "Vote", "VoteAns", "App", "AppAns", "Beat", "BeatAns", "Snap"}
	s := fmt.Sprintf("%s %d>%d t%d", names[m.Kind], m.From, m.To, m.Term)
	for i, n := range []int{m.Index, m.LogTerm, m.Commit, m.Hint, m.Ctx} {
		if n != 0 {
			s += fmt.Sprintf(" %c%d", "ilchx"[i], n)
		}
	}
	if m.Reject {
		s += " no"
	}
	if len(m.Entries) > 0 {
		s += " [" + shown(m.Entries) + "]"
	}
	if m.Snap.Index != 0 || m.Snap.Term != 0 || len(m.Snap.Data) > 0 {
		s += " {" + shownSnap(m.Snap) + "}"
	}
	return s
}

func shownMessages(l []api.Message) string {
	var s []string
	for _, m := range l {
		s = append(s, shownMessage(m))
	}
	return strings.Join(s, ", ")
}

// shownWork is a work as text: all of it that is not zero.
func shownWork(w core.Work) string {
	var s []string
	put := func(there bool, name, text string) {
		if there {
			s = append(s, strings.TrimSpace(name+" "+text))
		}
	}
	put(w.Number != 0, "#"+strconv.Itoa(w.Number), "")
	put(w.HasState || w.State != api.State{}, "state", fmt.Sprint(w.State.Term, w.State.Vote, w.State.Commit))
	put(!w.HasState && w.State != api.State{}, "which is none", "")
	put(w.Snap.Index != 0 || w.Snap.Term != 0 || len(w.Snap.Data) > 0, "snap", shownSnap(w.Snap))
	put(len(w.Entries) > 0, "write", shown(w.Entries))
	put(len(w.Now) > 0, "now", shownMessages(w.Now))
	put(len(w.After) > 0, "after", shownMessages(w.After))
	put(len(w.Apply) > 0, "apply", shown(w.Apply))
	reads := ""
	for _, r := range w.Reads {
		reads += fmt.Sprintf("%d@%d ", r.ID, r.Index)
	}
	put(len(w.Reads) > 0, "reads", reads)
	put(len(w.Dropped) > 0, "dropped", fmt.Sprint(w.Dropped))
	return strings.Join(s, "; ")
}

// shownStatus is how a core stands, as text.
func shownStatus(s core.Status) string {
	role := []string{"follower", "candidate", "leader"}[s.Role]
	return fmt.Sprintf("%s t%d v%d of %d; %d/%d; c%d a%d l%d", role, s.Term, s.Vote, s.Lead, s.Elapsed, s.Timeout, s.Commit, s.Applied, s.Last)
}

// whole is all that a core tells without a change, as text.
func whole(c *core.Core) string {
	base, term, entries := c.Log()
	s := shownStatus(c.Status()) + say(";", base, term, ";", shown(entries), ";", c.Marks(), "; match")
	for id := -1; id < 10; id++ {
		s += " " + strconv.Itoa(c.Match(id))
	}
	return s
}

// opts are the chapter's.
func opts(id, nodes int) core.Opts {
	return core.Opts{ID: id, Nodes: nodes, Election: 10, Beat: 1, Batch: 8, Window: 4, Reads: 4, Pending: 100}
}

// kit is a core that is looked at.
type kit struct {
	t *testing.T
	c *core.Core
}

// make is a core of these.
func makeKit(t *testing.T, o core.Opts, s api.State, snap api.Snap, entries ...api.Entry) kit {
	t.Helper()
	c, e := core.New(o, s, snap, entries, 0)
	if c == nil || e != api.OK {
		t.Fatalf("New: %d", e)
	}
	return kit{t, c}
}

// blank is a core without anything.
func blank(t *testing.T, id, nodes int) kit {
	t.Helper()
	return makeKit(t, opts(id, nodes), api.State{}, api.Snap{})
}

func (k kit) tick(n int) {
	for range n {
		k.c.Tick(0)
	}
}

// step steps messages that are to be taken.
func (k kit) step(l ...api.Message) {
	k.t.Helper()
	for _, m := range l {
		if e := k.c.Step(m); e != api.OK {
			k.t.Errorf("Step of %s: %d", shownMessage(m), e)
		}
	}
}

// work holds the next work against a text; an empty one: there is none.
func (k kit) work(want string) {
	k.t.Helper()
	w, ok := k.c.Ready()
	if have := shownWork(w); have != want || ok != (want != "") {
		k.t.Errorf("Ready: %v\nhave %s\nwant %s", ok, have, want)
	}
}

// done takes works and syncs them until there are none.
func (k kit) done() {
	k.t.Helper()
	for {
		w, ok := k.c.Ready()
		if !ok {
			return
		}
		if w.Number > 0 {
			k.synced(w.Number)
		}
		if n := len(w.Apply); n > 0 {
			is(k.t, k.c.Applied(w.Apply[n-1].Index), true)
		}
	}
}

func (k kit) synced(number int) {
	k.t.Helper()
	if e := k.c.Synced(number); e != api.OK {
		k.t.Errorf("Synced of %d: %d", number, e)
	}
}

func (k kit) status(want string) {
	k.t.Helper()
	if have := shownStatus(k.c.Status()); have != want {
		k.t.Errorf("Status\nhave %s\nwant %s", have, want)
	}
}

// log holds the log against a text: the base; the entries.
func (k kit) log(want string) {
	k.t.Helper()
	index, term, entries := k.c.Log()
	if have := strings.TrimSpace(say(index, term, ";", shown(entries))); have != want {
		k.t.Errorf("Log\nhave %s\nwant %s", have, want)
	}
}

// propose proposes what is to be taken.
func (k kit) propose(data string, index, term int) {
	k.t.Helper()
	if i, u, e := k.c.Propose([]byte(data)); i != index || u != term || e != api.OK {
		k.t.Errorf("Propose of %.20s: %d, %d, %d; not %d, %d", data, i, u, e, index, term)
	}
}

// same holds that a call changes nothing that is told.
func (k kit) same(call func()) {
	k.t.Helper()
	before := whole(k.c)
	call()
	if have := whole(k.c); have != before {
		k.t.Errorf("have %s\nwant %s", have, before)
	}
}
