package node_test

import (
	"strings"
	"testing"

	"synod/api"
	"synod/disk"
	"synod/node"
)

// asks is what Call answers, as text.
func (k kit) asks(c node.Call) string {
	r, ok := k.n.Call(c)
	return say(shownReply(r), ok)
}

func TestP12_2_Room(t *testing.T) {
	for _, room := range []int{1, 3, api.MaxQueue} {
		o := opts(1, 3)
		o.Inbox, o.Ticks, o.Calls = room, room, room
		k := made(t, o)
		for i := range room {
			is(t, say(k.n.Deliver(nil), k.n.Tick(i), k.asks(puts(i+1, "a", ""))), "true true nothing true")
		}
		for range 2 {
			is(t, say(k.n.Deliver(nil), k.n.Tick(0), k.asks(puts(99, "a", ""))), "false false busy false")
		}
		k.view(say("0 0 0 0; 0 0 0; inbox", room, "ticks", room, "calls", room))
		k.picks("", node.PInbox)
		is(t, say(k.n.Deliver(nil), k.n.Deliver(nil)), "true false")
		k.picks("", node.PTick)
		is(t, say(k.n.Tick(0), k.n.Tick(0)), "true false")
		k.picks("reply 1 lead", node.PCall)
		is(t, k.asks(puts(98, "a", "")), "nothing true")
		is(t, k.asks(puts(99, "a", "")), "busy false")
	}
}

// Each has its own room, and one that is full doesn't trouble the others.
func TestP12_2_RoomOfEach(t *testing.T) {
	o := opts(1, 3)
	o.Inbox, o.Ticks, o.Calls = 1, 2, 3
	k := made(t, o)
	for range 5 {
		k.n.Deliver(nil)
		k.n.Tick(0)
		k.n.Call(gets(1, "a"))
	}
	k.view("0 0 0 0; 0 0 0; inbox 1 ticks 2 calls 3")
}

// What stands in a queue is taken in its order.
func TestP12_2_InOrder(t *testing.T) {
	k := made(t, opts(1, 3))
	for _, m := range []api.Message{vote(2, 3, 0, 0), vote(3, 2, 0, 0), vote(3, 5, 0, 0)} {
		is(t, k.n.Deliver(framed(m)), true)
	}
	for _, want := range []string{"3 2", "3 2", "5 3"} {
		k.picks("", node.PInbox)
		is(t, say(k.n.View().Core.Term, k.n.View().Core.Vote), want)
	}
	k = made(t, opts(1, 3))
	is(t, say(k.n.Tick(7), k.n.Tick(3), k.n.Tick(4)), "true true true")
	k.picks("", node.PTick)
	is(t, k.n.View().Core.Timeout, 17)
	k = made(t, opts(1, 3))
	k.calls(puts(5, "a", ""), gets(-6, "a"), puts(7, "a", ""))
	k.picks("reply 5 lead, reply -6 lead, reply 7 lead", node.PCall, node.PCall, node.PCall)
}

func TestP12_2_WhichCallsMayBe(t *testing.T) {
	long := strings.Repeat("k", api.MaxKey)
	value := strings.Repeat("v", api.MaxValue)
	of := func(op, client, seq int, key, value, old string) api.Command {
		return api.Command{Op: op, Client: client, Seq: seq, Key: key, Value: value, Old: old}
	}
	for _, c := range []api.Command{
		of(api.OpGet, 0, 0, "a", "", ""),
		of(api.OpGet, 0, 0, long, "", ""),
		of(api.OpGet, 0, 0, "\x00", "", ""),
		of(api.OpPut, 1, 1, "a", "", ""),
		of(api.OpPut, top, top, long, value, ""),
		of(api.OpDelete, 1, 1, "a", "", ""),
		of(api.OpSwap, 1, 1, "a", "", ""),
		of(api.OpSwap, 1, 1, long, value, value),
	} {
		for _, id := range append(far(), 0, 1) {
			is(t, made(t, opts(1, 3)).asks(node.Call{ID: id, Command: c}), "nothing true")
		}
	}
	for i, c := range []api.Command{
		{},
		of(api.OpGet, 0, 0, "", "", ""),
		of(api.OpGet, 0, 0, long+"k", "", ""),
		of(api.OpGet, 1, 0, "a", "", ""),
		of(api.OpGet, 0, 1, "a", "", ""),
		of(api.OpGet, -1, 0, "a", "", ""),
		of(api.OpGet, 1, 1, "a", "", ""),
		of(api.OpGet, 0, 0, "a", "v", ""),
		of(api.OpGet, 0, 0, "a", "", "v"),
		of(0, 0, 0, "a", "", ""),
		of(5, 1, 1, "a", "", ""),
		of(api.OpPut, 0, 1, "a", "", ""),
		of(api.OpPut, 1, 0, "a", "", ""),
		of(api.OpPut, top+1, 1, "a", "", ""),
		of(api.OpPut, 1, top+1, "a", "", ""),
		of(api.OpPut, 1, -1, "a", "", ""),
		of(api.OpPut, 1, 1, "", "", ""),
		of(api.OpPut, 1, 1, long+"k", "", ""),
		of(api.OpPut, 1, 1, "a", value+"v", ""),
		of(api.OpPut, 1, 1, "a", "", "v"),
		of(api.OpDelete, 1, 1, "a", "v", ""),
		of(api.OpDelete, 1, 1, "a", "", "v"),
		of(api.OpSwap, 1, 1, "a", "", value+"v"),
	} {
		k := made(t, opts(1, 3))
		if s := k.asks(node.Call{ID: 1, Command: c}); s != "limit false" || k.n.View().Calls != 0 {
			t.Errorf("%d: %s", i, s)
		}
	}
}

// RDown goes ahead of RLimit, and that one ahead of RBusy.
func TestP12_2_OrderOfReplies(t *testing.T) {
	o := opts(1, 1)
	o.Calls = 1
	k := made(t, o)
	none := node.Call{ID: 1}
	is(t, k.asks(none), "limit false")
	k.calls(puts(1, "a", ""))
	is(t, k.asks(puts(2, "a", "")), "busy false")
	is(t, k.asks(none), "limit false")
	k.n.Stop()
	is(t, k.asks(none), "down false")
	is(t, k.asks(puts(2, "a", "")), "down false")
	is(t, say(k.n.Deliver(nil), k.n.Tick(0)), "false false")
	k.view("0 0 0 0; 0 0 0; stopped calls 1")
}

// A node that went down takes nothing.
func TestP12_2_Down(t *testing.T) {
	k := downed(t)
	was := shownView(k.n.View())
	is(t, say(k.n.Deliver(nil), k.n.Tick(0), k.asks(puts(2, "a", "")), k.asks(node.Call{})), "false false down false down false")
	k.view(was)
}

// downed is a node that went down at a write.
func downed(t *testing.T) kit {
	t.Helper()
	k := opened(t, opts(1, 1), disk.New())
	k.ticks(10)
	k.picks("", node.PWork)
	k.d.Arm(1)
	k.picks("down", node.PWrite)
	return k
}
