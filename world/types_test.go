package world_test

import (
	"testing"

	"synod/api"
	"synod/net"
	"synod/node"
	"synod/world"
)

// The types, as the chapter has them.
type (
	chapterOpts struct {
		Nodes, Clients int
		Node           node.Opts
	}
	chapterAct struct {
		Kind, Node, Client, N, M int
		Op                       int
		Key, Value, Old          string
	}
	chapterEvent struct {
		Kind, Node, Client, Number int
		Reply                      api.Reply
	}
	chapterTold struct {
		Err    api.Errno
		Did    bool
		Events []world.Event
	}
)

// The types and the calls are the chapter's.
var (
	_ = chapterOpts(world.Opts{})
	_ = chapterAct(world.Act{})
	_ = chapterEvent(world.Event{})
	_ = chapterTold(world.Told{})

	_ func(world.Opts) (*world.World, api.Errno)                        = world.New
	_ func(*world.World, world.Act) world.Told                          = (*world.World).Do
	_ func(*world.World) int                                            = (*world.World).Now
	_ func(*world.World) []api.Op                                       = (*world.World).History
	_ func(*world.World, int) (node.View, bool)                         = (*world.World).View
	_ func(*world.World, int, string) api.Reply                         = (*world.World).Get
	_ func(*world.World, int) (int, int, []api.Entry)                   = (*world.World).Log
	_ func(*world.World, int) []api.File                                = (*world.World).Files
	_ func(*world.World) []net.Mail                                     = (*world.World).Mail
	_ func(*world.World) int                                            = (*world.World).Leader
	_ func(world.Opts, []world.Act) ([]world.Told, []api.Op, api.Errno) = world.Run
)

// The kinds have the chapter's numbers.
func TestP15_2_Kinds(t *testing.T) {
	is(t, []int{world.WTick, world.WPick, world.WDeliver, world.WDrop, world.WCopy, world.WSpoil, world.WMove, world.WLink}, "[1 2 3 4 5 6 7 8]")
	is(t, []int{world.WCrash, world.WStart, world.WStop, world.WArm, world.WCall, world.WAgain, world.WGive, world.WCalm}, "[9 10 11 12 13 14 15 16]")
	is(t, world.EBack, 8)
}
