package text

import (
	"strconv"

	"synod/api"
	"synod/node"
	"synod/world"
)

// FormatEvent is the line of an event.
func FormatEvent(e world.Event) string {
	switch e.Kind {
	case node.ESend:
		return tell("send", e.Node, e.Number)
	case node.ESync:
		return tell("sync", e.Node, e.Number)
	case node.EApply:
		return tell("apply", e.Node, e.Number)
	case node.ESnap:
		return tell("snap", e.Node, e.Number)
	case node.EDown:
		return tell("down", e.Node)
	case node.EEnd:
		return tell("end", e.Node, e.Number)
	case world.EBack:
		return join(tell("back", e.Client, e.Node), Reply(e.Reply))
	}
	return unknown
}

// tell is a word and numbers.
func tell(word string, numbers ...int) string {
	for _, n := range numbers {
		word = join(word, strconv.Itoa(n))
	}
	return word
}

// Reply is a reply as words.
func Reply(r api.Reply) string {
	word := codes().word(r.Code)
	if r.Value == "" {
		return word
	}
	return join(word, Quote(r.Value))
}

// FormatTold is the lines of what an act told.
func FormatTold(t world.Told) []string {
	lines := []string{verdict(t)}
	for _, e := range t.Events {
		lines = append(lines, FormatEvent(e))
	}
	return lines
}

// verdict is the line that tells how an act went.
func verdict(t world.Told) string {
	switch {
	case t.Err != api.OK:
		return tell("err", int(t.Err))
	case t.Did:
		return "ok"
	}
	return "no"
}

// FormatOp is the line of an operation.
func FormatOp(x api.Op) string {
	return join(
		strconv.Itoa(x.Client), strconv.Itoa(x.Seq), ops().word(x.Kind),
		Quote(x.Key), Quote(x.Value), Quote(x.Old),
		strconv.Itoa(x.Call), answer(x),
	)
}

// answer is when an operation was answered, and how.
func answer(x api.Op) string {
	if x.Back == 0 {
		return "open"
	}
	return join(strconv.Itoa(x.Back), Reply(x.Reply))
}
