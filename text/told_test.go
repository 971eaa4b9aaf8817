package text_test

import (
	"fmt"
	"strings"
	"testing"

	"synod/api"
	"synod/node"
	"synod/text"
	"synod/world"
)

// eventWords are the words of the kinds of events that have a line with a node and a number.
func eventWords() map[int]string {
	return map[int]string{node.ESend: "send", node.ESync: "sync", node.EApply: "apply", node.ESnap: "snap", node.EEnd: "end"}
}

// A line tells what the chapter names of an event, and nothing else of it.
func TestP17_5_Events(t *testing.T) {
	for _, n := range append(far(), 0, 1, 3) {
		for _, x := range append(far(), 0, 2) {
			e := world.Event{Node: n, Number: x, Client: 77, Reply: api.Reply{Code: api.RDone, Value: "x"}}
			for kind, word := range eventWords() {
				e.Kind = kind
				is(t, text.FormatEvent(e), fmt.Sprintf("%s %d %d", word, n, x))
			}
			e.Kind = node.EDown
			is(t, text.FormatEvent(e), fmt.Sprintf("down %d", n))
			e.Kind, e.Client, e.Number = world.EBack, x, 77
			is(t, text.FormatEvent(e), fmt.Sprintf("back %d %d done x", x, n))
		}
	}
}

func TestP17_5_NoEvent(t *testing.T) {
	for _, kind := range append(far(), 0, node.EReply, 9, 10, 16) {
		is(t, text.FormatEvent(world.Event{Kind: kind}), "?")
		is(t, text.FormatEvent(world.Event{Kind: kind, Node: 1, Client: 2, Number: 3, Reply: api.Reply{Code: 1, Value: "x"}}), "?")
	}
}

// codeWords are the words of the codes 1 to 10.
func codeWords() []string {
	return strings.Fields("done none other old full lead busy lost limit down")
}

func TestP17_5_Reply(t *testing.T) {
	for code := -1; code < 13; code++ {
		word := "?"
		if code >= 1 && code <= 10 {
			word = codeWords()[code-1]
		}
		for value, more := range map[string]string{"": "", "x": " x", " ": ` " "`, "#": ` "#"`, "a\"": ` "a\""`, "\x00": ` "\x00"`, "\\": ` \`, "a b": ` "a b"`} {
			r := api.Reply{Code: code, Value: value}
			is(t, text.Reply(r), word+more)
			is(t, text.FormatEvent(world.Event{Kind: world.EBack, Client: 5, Node: 6, Reply: r}), "back 5 6 "+word+more)
			is(t, text.FormatOp(api.Op{Client: 1, Seq: 2, Kind: api.OpGet, Key: "k", Call: 3, Back: 4, Reply: r}), `1 2 get k "" "" 3 4 `+word+more)
		}
	}
	for _, code := range far() {
		is(t, text.Reply(api.Reply{Code: code}), "?")
		is(t, text.Reply(api.Reply{Code: code, Value: "y"}), "? y")
	}
	is(t, text.Reply(api.Reply{Code: api.RDone, Value: strings.Repeat("v", 9000)}), "done "+strings.Repeat("v", 9000))
}

// The codes by their names.
func TestP17_5_Codes(t *testing.T) {
	for code, word := range map[int]string{
		api.RDone: "done", api.RNone: "none", api.ROther: "other", api.ROld: "old", api.RFull: "full",
		api.RLead: "lead", api.RBusy: "busy", api.RLost: "lost", api.RLimit: "limit", api.RDown: "down",
	} {
		is(t, text.Reply(api.Reply{Code: code}), word)
	}
}

// told holds what an act told against its lines.
func told(t *testing.T, x world.Told, want ...string) {
	t.Helper()
	is(t, strings.Join(text.FormatTold(x), "\n"), strings.Join(want, "\n"))
}

func TestP17_5_Told(t *testing.T) {
	told(t, world.Told{}, "no")
	told(t, world.Told{Did: true}, "ok")
	told(t, world.Told{Did: true, Events: []world.Event{}}, "ok")
	events := []world.Event{
		{Kind: node.ESync, Node: 1, Number: 2}, {Kind: node.EDown, Node: 3}, {Kind: 99}, {Kind: node.ESync, Node: 1, Number: 2},
		{Kind: world.EBack, Client: 4, Node: 5, Reply: api.Reply{Code: api.RNone}},
	}
	shown := []string{"sync 1 2", "down 3", "?", "sync 1 2", "back 4 5 none"}
	for n := range len(events) + 1 {
		told(t, world.Told{Did: true, Events: events[:n]}, append([]string{"ok"}, shown[:n]...)...)
		told(t, world.Told{Events: events[:n]}, append([]string{"no"}, shown[:n]...)...)
		told(t, world.Told{Err: api.ErrDown, Events: events[:n]}, append([]string{"err 11"}, shown[:n]...)...)
	}
}

// An error is told by its number, whatever stands beside it.
func TestP17_5_ToldErrors(t *testing.T) {
	for e := api.ErrRange; e <= api.ErrMany; e++ {
		told(t, world.Told{Err: e}, fmt.Sprintf("err %d", int(e)))
		told(t, world.Told{Err: e, Did: true}, fmt.Sprintf("err %d", int(e)))
	}
	for _, n := range far() {
		told(t, world.Told{Err: api.Errno(n)}, fmt.Sprintf("err %d", n))
	}
	told(t, world.Told{Err: api.ErrKind}, "err 6")
	told(t, world.Told{Err: api.ErrThere}, "err 9")
	told(t, world.Told{Err: api.ErrMany}, "err 23")
}

func TestP17_5_Ops(t *testing.T) {
	x := api.Op{Client: 1, Seq: 2, Kind: api.OpSwap, Key: "k", Value: "v", Old: "o", Call: 3, Back: 4, Reply: api.Reply{Code: api.ROther, Value: "w"}}
	is(t, text.FormatOp(x), "1 2 swap k v o 3 4 other w")
	x.Key, x.Value, x.Old = "", "a b", "#"
	is(t, text.FormatOp(x), `1 2 swap "" "a b" "#" 3 4 other w`)
	for kind, word := range map[int]string{api.OpGet: "get", api.OpPut: "put", api.OpDelete: "delete", api.OpSwap: "swap", 0: "?", 5: "?", -1: "?", 1 << 62: "?", -1 << 63: "?", 1<<63 - 1: "?"} {
		x.Kind = kind
		is(t, text.FormatOp(x), fmt.Sprintf(`1 2 %s "" "a b" "#" 3 4 other w`, word))
	}
	for _, n := range append(far(), 1) {
		is(t, text.FormatOp(api.Op{Client: n, Seq: 5, Kind: 1, Key: "k", Call: 6, Back: 7}), fmt.Sprintf(`%d 5 get k "" "" 6 7 ?`, n))
		is(t, text.FormatOp(api.Op{Client: 5, Seq: n, Kind: 1, Key: "k", Call: 6, Back: 7}), fmt.Sprintf(`5 %d get k "" "" 6 7 ?`, n))
		is(t, text.FormatOp(api.Op{Client: 5, Seq: 6, Kind: 1, Key: "k", Call: n, Back: 7}), fmt.Sprintf(`5 6 get k "" "" %d 7 ?`, n))
		is(t, text.FormatOp(api.Op{Client: 5, Seq: 6, Kind: 1, Key: "k", Call: 7, Back: n}), fmt.Sprintf(`5 6 get k "" "" 7 %d ?`, n))
	}
	is(t, text.FormatOp(api.Op{}), `0 0 ? "" "" "" 0 open`)
}

// Of an open operation no reply is told, even if there is one.
func TestP17_5_OpenOps(t *testing.T) {
	x := api.Op{Client: 2, Seq: 1, Kind: api.OpDelete, Key: "a", Call: 11}
	is(t, text.FormatOp(x), `2 1 delete a "" "" 11 open`)
	x.Reply = api.Reply{Code: api.RDone, Value: "x"}
	is(t, text.FormatOp(x), `2 1 delete a "" "" 11 open`)
	x.Back = -1
	is(t, text.FormatOp(x), `2 1 delete a "" "" 11 -1 done x`)
}
