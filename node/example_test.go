package node_test

import (
	"testing"

	"synod/node"
)

// The chapter's examples, line by line.
func TestP12_3_Examples(t *testing.T) {
	k := made(t, opts(1, 1))
	k.ticks(10)
	k.idle(node.PNotice)
	k.picks("", node.PWork)
	k.idle(node.PWork)

	k.calls(node.Call{ID: 7, Command: put(1, 1, "a", "x")})
	k.picks("", node.PCall)

	k.picks("", node.PWrite)
	k.picks("sync 1", node.PSync)
	k.picks("", node.PNotice)
	k.picks("", node.PWork)

	k.picks("apply 1", node.PApply)

	k.picks("", node.PWrite)
	k.picks("sync 2", node.PSync)
	k.picks("", node.PNotice)
	is(t, k.n.View().Core.Applied, 1)
	is(t, k.n.View().Core.Commit, 1)
	k.picks("", node.PNotice)
	is(t, k.n.View().Core.Commit, 2)
	k.picks("", node.PWork)
	k.picks("apply 2, reply 7 done", node.PApply)

	k.calls(gets(8, "a"))
	k.picks("", node.PCall)
	k.picks("", node.PWork)
	k.picks("reply 8 done x", node.PApply)

	r, ok := k.n.Call(node.Call{ID: 9, Command: put(1, 0, "a", "x")})
	is(t, say(shownReply(r), ok), "limit false")
	is(t, k.n.Deliver(nil), true)
	k.picks("", node.PInbox)
	k.idle(10)
}
