package world

import (
	"synod/api"
	"synod/node"
)

// EBack is the event that a client gets a reply; the others are node's.
const EBack = 8

// Event is what was told.
type Event struct {
	Kind, Node, Client, Number int
	Reply                      api.Reply
}

// tell lets a node's events have their effect, and tells them.
func (w *World) tell(s *site, events []node.Event) []Event {
	var told []Event
	for _, e := range events {
		switch e.Kind {
		case node.EReply:
			if c := w.caller(e.Number); c != nil {
				told = append(told, w.back(s, c, e.Reply))
			}
			continue
		case node.ESend:
			w.net.Send(s.id, e.Number, e.Data)
		}
		told = append(told, Event{Kind: e.Kind, Node: s.id, Number: e.Number})
	}
	return told
}
