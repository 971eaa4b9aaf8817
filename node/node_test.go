package node_test

import (
	"fmt"
	"math"
	"strings"
	"testing"

	"synod/api"
	"synod/codec"
	"synod/core"
	"synod/disk"
	"synod/frame"
	"synod/kv"
	"synod/node"
)

const top = api.MaxIndex

// far are ints that lie far out of range.
func far() []int {
	return []int{math.MinInt, math.MinInt + 1, -top, -8, -1, top + 1, 2*top - 1, math.MaxInt - 1, math.MaxInt}
}

// say is all of a list of answers, as one text.
func say(l ...any) string { return strings.TrimSuffix(fmt.Sprintln(l...), "\n") }

// is holds an answer against the one that the document asks.
func is(t *testing.T, have, want any) {
	t.Helper()
	if say(have) != say(want) {
		t.Errorf("have %v\nwant %v", have, want)
	}
}

// opts are the chapter's, of one of some nodes.
func opts(id, nodes int) node.Opts {
	return node.Opts{
		Core:    core.Opts{ID: id, Nodes: nodes, Election: 10, Beat: 1, Batch: 8, Window: 4, Reads: 4, Pending: 100},
		Segment: 4096, Inbox: 4, Ticks: 4, Calls: 4, Jobs: 4, Applies: 4, Out: 4,
	}
}

func put(client, seq int, key, value string) api.Command {
	return api.Command{Op: api.OpPut, Client: client, Seq: seq, Key: key, Value: value}
}

// puts is a call of client 1 whose Seq is the call's ID.
func puts(id int, key, value string) node.Call {
	return node.Call{ID: id, Command: put(1, id, key, value)}
}

func gets(id int, key string) node.Call {
	return node.Call{ID: id, Command: api.Command{Op: api.OpGet, Key: key}}
}

// The messages to node 1.
func vote(from, term, index, logTerm int) api.Message {
	return api.Message{Kind: api.MVote, From: from, To: 1, Term: term, Index: index, LogTerm: logTerm}
}

func voteYes(from, term int) api.Message {
	return api.Message{Kind: api.MVoteAns, From: from, To: 1, Term: term}
}

func app(from, term, index, logTerm, commit int, entries ...api.Entry) api.Message {
	return api.Message{Kind: api.MApp, From: from, To: 1, Term: term, Index: index, LogTerm: logTerm, Commit: commit, Entries: entries}
}

func appYes(from, term, index int) api.Message {
	return api.Message{Kind: api.MAppAns, From: from, To: 1, Term: term, Index: index}
}

func beat(from, term, commit, ctx int) api.Message {
	return api.Message{Kind: api.MBeat, From: from, To: 1, Term: term, Commit: commit, Ctx: ctx}
}

func beatAns(from, term, ctx int) api.Message {
	return api.Message{Kind: api.MBeatAns, From: from, To: 1, Term: term, Ctx: ctx}
}

func snapMsg(from, term int, s api.Snap) api.Message {
	return api.Message{Kind: api.MSnap, From: from, To: 1, Term: term, Snap: s}
}

func empty(term, index int) api.Entry { return api.Entry{Term: term, Index: index} }

// of is empty entries from an index on, of these terms.
func of(index int, terms ...int) []api.Entry {
	var l []api.Entry
	for i, term := range terms {
		l = append(l, empty(term, index+i))
	}
	return l
}

// commands is an entry with a command.
func commands(term, index int, c api.Command) api.Entry {
	text, e := (codec.Commands{}).Put(c)
	if e != api.OK {
		panic(say("no command:", c))
	}
	return api.Entry{Term: term, Index: index, Kind: api.ECommand, Data: text}
}

// storeWith is a snapshot of a store with one key, of client 9.
func storeWith(index, term int, key, value string) api.Snap {
	s := kv.New()
	s.Do(put(9, 1, key, value))
	return api.Snap{Index: index, Term: term, Data: s.Snapshot()}
}

// framed is a message as it goes from node to node.
func framed(m api.Message) []byte {
	text, e := (codec.Messages{}).Put(m)
	if e != api.OK {
		panic(say("no message:", m, e))
	}
	b, _ := frame.Put(text)
	return b
}

// message is what a frame has in it.
func message(b []byte) (api.Message, api.Errno) {
	text, e := frame.One(b)
	if e != api.OK {
		return api.Message{}, e
	}
	return (codec.Messages{}).Get(text)
}

// shownEntries is entries as text: index and term, and an x behind that of a command.
func shownEntries(l []api.Entry) string {
	var b []string
	for _, e := range l {
		b = append(b, fmt.Sprintf("%d/%d%s", e.Index, e.Term, strings.Repeat("x", e.Kind)))
	}
	return strings.Join(b, " ")
}

// shownMessage is a message as text: all of it that is not zero, but the data.
func shownMessage(m api.Message) string {
	names := []string{"none", "Vote", "VoteAns", "App", "AppAns", "Beat", "BeatAns", "Snap"}
	s := fmt.Sprintf("%s t%d", names[m.Kind], m.Term)
	for i, n := range []int{m.Index, m.LogTerm, m.Commit, m.Hint, m.Ctx} {
		if n != 0 {
			s += fmt.Sprintf(" %c%d", "ilchx"[i], n)
		}
	}
	if m.Reject {
		s += " no"
	}
	if len(m.Entries) > 0 {
		s += " [" + shownEntries(m.Entries) + "]"
	}
	if m.Snap.Index != 0 {
		s += fmt.Sprintf(" {%d/%d}", m.Snap.Index, m.Snap.Term)
	}
	return s
}

// shownReply is a reply's code as a word, and its value.
func shownReply(r api.Reply) string {
	words := []string{"nothing", "done", "none", "other", "old", "full", "lead", "busy", "lost", "limit", "down"}
	return strings.TrimSpace(words[r.Code] + " " + r.Value)
}

// shownEvent is an event as text, with a mark, if it has anything that its kind doesn't name.
func shownEvent(e node.Event) string {
	s, rest := "", e
	rest.Kind, rest.Number = 0, 0
	switch e.Kind {
	case node.ESend:
		m, err := message(e.Data)
		s = fmt.Sprintf("send %d>%d %s", m.From, e.Number, shownMessage(m))
		if err != api.OK || m.To != e.Number {
			s += say(" is no message for", e.Number, err)
		}
		rest.Data = nil
	case node.ESync:
		s = say("sync", e.Number)
	case node.EApply:
		s = say("apply", e.Number)
	case node.EReply:
		s = say("reply", e.Number, shownReply(e.Reply))
		rest.Reply = api.Reply{}
	case node.ESnap:
		s = say("snap", e.Number)
	case node.EDown:
		s, rest.Number = "down", e.Number
	case node.EEnd:
		s = say("end", e.Number)
	default:
		s = say("no kind:", e.Kind)
	}
	if len(rest.Data) > 0 || rest.Reply != (api.Reply{}) || rest.Number != 0 {
		s += " and more"
	}
	return s
}

func shown(l []node.Event) string {
	var b []string
	for _, e := range l {
		b = append(b, shownEvent(e))
	}
	return strings.Join(b, ", ")
}

// shownView is a view as text: the core by its term, vote, role, lead, commit, applied and last, then all that is not 0.
func shownView(v node.View) string {
	c := v.Core
	s := fmt.Sprintf("%d %d %d %d; %d %d %d;", c.Term, c.Vote, c.Role, c.Lead, c.Commit, c.Applied, c.Last)
	if !v.Up {
		s += " down"
	}
	if v.Stopped {
		s += " stopped"
	}
	names := strings.Fields("stored synced snap notices inbox ticks calls jobs held applies out waiting pending")
	for i, n := range []int{v.Stored, v.Synced, v.Snap, v.Notices, v.Inbox, v.Ticks, v.Calls, v.Jobs, v.Held, v.Applies, v.Out, v.Waiting, v.Pending} {
		if n != 0 {
			s += say("", names[i], n)
		}
	}
	return s
}

// kit is a node on its disk.
type kit struct {
	t *testing.T
	n *node.Node
	d *disk.Disk
}

// opened is a node of a disk.
func opened(t *testing.T, o node.Opts, d *disk.Disk) kit {
	t.Helper()
	n, e := node.Open(o, d, 0)
	if n == nil || e != api.OK {
		t.Fatalf("Open: %d", e)
	}
	return kit{t, n, d}
}

func made(t *testing.T, o node.Opts) kit {
	t.Helper()
	return opened(t, o, disk.New())
}

// picks does picks, each of which has to do something, and holds what they told against a text.
func (k kit) picks(want string, kinds ...int) {
	k.t.Helper()
	var told []node.Event
	for i, kind := range kinds {
		l, did := k.n.Pick(kind)
		if !did {
			k.t.Fatalf("the pick %d, %d of %v, does nothing", i, kind, kinds)
		}
		told = append(told, l...)
	}
	is(k.t, shown(told), want)
}

// idle does picks that do nothing, and holds that they change nothing.
func (k kit) idle(kinds ...int) {
	k.t.Helper()
	was := shownView(k.n.View())
	for _, kind := range kinds {
		if l, did := k.n.Pick(kind); did || len(l) > 0 {
			k.t.Fatalf("the pick %d does something: %s", kind, shown(l))
		}
	}
	is(k.t, shownView(k.n.View()), was)
}

func (k kit) view(want string) {
	k.t.Helper()
	is(k.t, shownView(k.n.View()), want)
}

// ticks lets some pass, with the draw 0.
func (k kit) ticks(n int) {
	k.t.Helper()
	for range n {
		is(k.t, k.n.Tick(0), true)
		k.picks("", node.PTick)
	}
}

// steps lets messages be taken.
func (k kit) steps(l ...api.Message) {
	k.t.Helper()
	for _, m := range l {
		is(k.t, k.n.Deliver(framed(m)), true)
		k.picks("", node.PInbox)
	}
}

// calls lets a call stand in the calls.
func (k kit) calls(l ...node.Call) {
	k.t.Helper()
	for _, c := range l {
		r, ok := k.n.Call(c)
		is(k.t, say(r, ok), "{0 } true")
	}
}

// sweep picks each of these kinds until it does nothing, all of them again and again until none does anything.
func (k kit) sweep(kinds ...int) string {
	k.t.Helper()
	var told []node.Event
	for range 1000 {
		did := false
		for _, kind := range kinds {
			did = k.drain(kind, &told) || did
		}
		if !did {
			return shown(told)
		}
	}
	k.t.Fatalf("it does not come to rest: %s", shownView(k.n.View()))
	return ""
}

// drain picks a kind until it does nothing, and tells whether it did anything.
func (k kit) drain(kind int, told *[]node.Event) bool {
	k.t.Helper()
	for n := range 10000 {
		l, did := k.n.Pick(kind)
		*told = append(*told, l...)
		if !did {
			return n > 0
		}
	}
	k.t.Fatalf("the pick %d goes on and on", kind)
	return true
}

// all is every kind of pick.
func all() []int {
	return []int{node.PNotice, node.PWork, node.PInbox, node.PTick, node.PCall, node.PWrite, node.PSync, node.PApply, node.PSend}
}

// rest does all that there is to do.
func (k kit) rest() string {
	k.t.Helper()
	return k.sweep(all()...)
}

// led is a node of one that leads in term 1, with nothing to do.
func led(t *testing.T, o node.Opts) kit {
	t.Helper()
	k := made(t, o)
	k.ticks(10)
	is(t, k.rest(), "sync 1, sync 2, apply 1")
	return k
}

// serving is node 1 of three that leads in term 1, whose first entry is committed; what it sent is gone.
func serving(t *testing.T, o node.Opts) kit {
	t.Helper()
	k := made(t, o)
	k.ticks(10)
	k.rest()
	k.steps(voteYes(2, 1))
	k.rest()
	k.steps(appYes(2, 1, 1))
	k.rest()
	v := k.n.View()
	is(t, say(v.Core.Role, v.Core.Commit, v.Core.Applied, v.Stored), say(api.Leader, 1, 1, 1))
	return k
}
