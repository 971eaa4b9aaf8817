package world

import "synod/api"

// The kinds of acts.
const (
	WTick    = 1
	WPick    = 2
	WDeliver = 3
	WDrop    = 4
	WCopy    = 5
	WSpoil   = 6
	WMove    = 7
	WLink    = 8
	WCrash   = 9
	WStart   = 10
	WStop    = 11
	WArm     = 12
	WCall    = 13
	WAgain   = 14
	WGive    = 15
	WCalm    = 16
)

// Act is what happens.
type Act struct {
	Kind, Node, Client, N, M int
	Op                       int
	Key, Value, Old          string
}

// deed is what a kind of act does.
type deed struct {
	there func(a Act) bool // whether the nodes and the client that it names are there; do is asked only then
	do    func(a Act) Told
}

// deedsOf makes what an act does to a world, by its kind.
func deedsOf(w *World) map[int]deed {
	nobody := func(Act) bool { return true }
	oneNode := func(a Act) bool { return w.site(a.Node) != nil }
	twoNodes := func(a Act) bool { return oneNode(a) && w.site(a.N) != nil }
	oneClient := func(a Act) bool { return w.client(a.Client) != nil }
	clientAndNode := func(a Act) bool { return oneNode(a) && oneClient(a) }
	// What only a node that is up does.
	up := func(do func(s *site, a Act) Told) func(Act) Told {
		return func(a Act) Told {
			s := w.site(a.Node)
			if !s.up() {
				return Told{Err: api.ErrDown}
			}
			return do(s, a)
		}
	}
	// What only a client does that is at an operation.
	busy := func(do func(c *client, a Act) Told) func(Act) Told {
		return func(a Act) Told {
			c := w.client(a.Client)
			if !c.busy() {
				return Told{Err: api.ErrThere}
			}
			return do(c, a)
		}
	}
	return map[int]deed{
		WTick:    {oneNode, up(w.tick)},
		WPick:    {oneNode, up(w.pick)},
		WDeliver: {nobody, w.deliver},
		WDrop:    {nobody, func(a Act) Told { return Told{Did: w.net.Drop(a.N)} }},
		WCopy:    {nobody, func(a Act) Told { return Told{Did: w.net.Copy(a.N)} }},
		WSpoil:   {nobody, func(a Act) Told { return Told{Did: w.net.Spoil(a.N, a.M)} }},
		WMove:    {nobody, func(a Act) Told { return Told{Did: w.net.Move(a.N, a.M)} }},
		WLink:    {twoNodes, func(a Act) Told { return Told{Did: w.net.Link(a.Node, a.N, a.M != 0)} }},
		WCrash:   {oneNode, w.crash},
		WStart:   {oneNode, w.start},
		WStop:    {oneNode, up(w.stop)},
		WArm:     {oneNode, w.arm},
		WCall:    {clientAndNode, w.call},
		WAgain:   {clientAndNode, busy(w.again)},
		WGive:    {oneClient, busy(w.give)},
		WCalm:    {oneNode, w.calm},
	}
}

func (w *World) tick(s *site, a Act) Told { return Told{Did: s.node.Tick(a.N)} }

func (w *World) pick(s *site, a Act) Told {
	events, did := s.node.Pick(a.N)
	return Told{Did: did, Events: w.tell(s, events)}
}

func (w *World) deliver(a Act) Told {
	m, ok := w.net.Take(a.N)
	if !ok {
		return Told{Err: api.ErrNone}
	}
	s := w.site(m.To)
	return Told{Did: s.up() && s.node.Deliver(m.Data)}
}

func (w *World) crash(a Act) Told {
	s := w.site(a.Node)
	s.crashed = true
	s.disk.Crash(a.N)
	return Told{Did: true}
}

func (w *World) start(a Act) Told {
	s := w.site(a.Node)
	if s.up() {
		return Told{Err: api.ErrThere}
	}
	err := s.start(a.N)
	return Told{Err: err, Did: err == api.OK}
}

func (w *World) stop(s *site, _ Act) Told {
	s.node.Stop()
	return Told{Did: true}
}

func (w *World) arm(a Act) Told {
	w.site(a.Node).disk.Arm(a.N)
	return Told{Did: true}
}

func (w *World) call(a Act) Told {
	c := w.client(a.Client)
	if c.busy() {
		return Told{Err: api.ErrThere}
	}
	w.begin(c, api.Op{Kind: a.Op, Key: a.Key, Value: a.Value, Old: a.Old, Call: w.now})
	return w.again(c, a)
}

func (w *World) again(c *client, a Act) Told {
	return Told{Did: true, Events: w.callAt(w.site(a.Node), c)}
}

func (w *World) give(c *client, _ Act) Told {
	c.leave()
	return Told{Did: true}
}

func (w *World) calm(a Act) Told {
	if !within(a.N, 1, mostRounds) {
		return Told{Err: api.ErrRange}
	}
	var told []Event
	for range a.N {
		told = append(told, w.round(a.Node)...)
	}
	return Told{Did: true, Events: told}
}
