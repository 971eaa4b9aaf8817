package node_test

import (
	"bytes"
	"testing"

	"synod/api"
	"synod/disk"
	"synod/node"
)

// The lanes are served in turn, each first in, first out.
func TestP12_3_Send(t *testing.T) {
	k := made(t, opts(1, 5))
	k.idle(node.PSend)
	k.steps(beat(4, 1, 0, 1), beat(4, 1, 0, 2), vote(2, 1, 0, 0), beat(4, 1, 0, 3))
	k.picks("sync 1", node.PWork, node.PWrite, node.PSync)
	k.picks("send 1>2 VoteAns t1", node.PSend)
	is(t, k.n.View().Out, 3)
	k.picks("send 1>4 BeatAns t1 x1, send 1>4 BeatAns t1 x2", node.PSend, node.PSend)
	k.steps(vote(5, 1, 0, 0), vote(3, 1, 0, 0))
	k.picks("sync 2", node.PWork, node.PWrite, node.PSync)
	k.picks("send 1>5 VoteAns t1 no, send 1>3 VoteAns t1 no, send 1>4 BeatAns t1 x3", node.PSend, node.PSend, node.PSend)
	k.idle(node.PSend)
}

// A sent message's data are the frame of its text, and nothing else is in the event.
func TestP12_4_Send(t *testing.T) {
	k := serving(t, opts(1, 3))
	k.calls(puts(7, "a", "x"))
	k.picks("", node.PCall, node.PWork)
	l, did := k.n.Pick(node.PSend)
	is(t, say(did, len(l)), "true 1")
	want := framed(api.Message{
		Kind: api.MApp, From: 1, To: 2, Term: 1, Index: 1, LogTerm: 1, Commit: 1,
		Entries: []api.Entry{commands(1, 2, puts(7, "a", "x").Command)},
	})
	if !bytes.Equal(l[0].Data, want) {
		t.Errorf("%x; want %x", l[0].Data, want)
	}
	is(t, say(l[0].Kind, l[0].Number, l[0].Reply), say(node.ESend, 2, api.Reply{}))
	// Another node takes it.
	other := made(t, opts(2, 3))
	other.n.Deliver(l[0].Data)
	other.picks("", node.PInbox)
	is(t, say(other.n.View().Core.Term, other.n.View().Core.Lead), "1 1")
}

// The greatest messages that there are: a snapshot, and a batch of great entries.
func TestP12_4_SendGreat(t *testing.T) {
	big := make([]byte, api.MaxSnap)
	k := made(t, opts(1, 3))
	k.steps(snapMsg(2, 4, api.Snap{Index: 9, Term: 3, Data: big}))
	k.rest()
	k.ticks(10)
	k.rest()
	k.steps(voteYes(2, 5))
	k.rest()
	k.steps(api.Message{Kind: api.MAppAns, From: 3, To: 1, Term: 5, Index: 9, Reject: true})
	k.picks("", node.PWork)
	l, _ := k.n.Pick(node.PSend)
	m, e := message(l[0].Data)
	is(t, say(e, m.Kind, m.To, m.Snap.Index, bytes.Equal(m.Snap.Data, big)), say(0, api.MSnap, 3, 9, true))

	o := opts(1, 3)
	o.Core.Batch = api.MaxEntries
	var great []api.Entry
	for i := range api.MaxEntries {
		great = append(great, api.Entry{Term: 1, Index: 1 + i, Kind: api.ECommand, Data: make([]byte, api.MaxData)})
	}
	k = opened(t, o, written(t, termed(1, 0, 0, great...)))
	k.ticks(10)
	k.rest()
	k.steps(voteYes(2, 2), api.Message{Kind: api.MAppAns, From: 3, To: 1, Term: 2, Index: 64, Reject: true})
	k.picks("", node.PWork)
	for range 3 {
		l, _ = k.n.Pick(node.PSend)
	}
	m, e = message(l[0].Data)
	is(t, say(e, m.Kind, m.To, len(m.Entries)), say(0, api.MApp, 3, api.MaxEntries))
}

// Each other kind has its number, a reply has its reply, and nothing else is in them.
func TestP12_4_Others(t *testing.T) {
	o := opts(1, 1)
	o.Every = 2
	k := led(t, o)
	k.calls(node.Call{ID: -7, Command: put(1, 1, "a", "x")}, gets(8, "a"))
	var told []node.Event
	for _, kind := range []int{
		node.PCall, node.PWork, node.PWrite, node.PSync, node.PNotice, node.PCall, node.PWork, node.PApply,
		node.PNotice, node.PNotice, node.PWrite, node.PWrite, node.PSync,
	} {
		l, _ := k.n.Pick(kind)
		told = append(told, l...)
	}
	k.n.Stop()
	l, _ := k.n.Pick(node.PTick)
	told = append(told, l...)
	is(t, say(told), say([]node.Event{
		{Kind: node.ESync, Number: 3},
		{Kind: node.EApply, Number: 2},
		{Kind: node.EReply, Number: -7, Reply: api.Reply{Code: api.RDone}},
		{Kind: node.EReply, Number: 8, Reply: api.Reply{Code: api.RDone, Value: "x"}},
		{Kind: node.ESnap, Number: 2},
		{Kind: node.ESync, Number: 4},
		{Kind: node.EEnd, Number: 1},
	}))
	k = opened(t, opts(1, 1), disk.New())
	k.ticks(10)
	k.picks("", node.PWork)
	k.d.Arm(1)
	l, _ = k.n.Pick(node.PWrite)
	is(t, say(l), say([]node.Event{{Kind: node.EDown}}))
}
