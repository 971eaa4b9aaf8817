package node

import "synod/api"

// The picks.
const (
	PNotice = 1
	PWork   = 2
	PInbox  = 3
	PTick   = 4
	PCall   = 5
	PWrite  = 6
	PSync   = 7
	PApply  = 8
	PSend   = 9
)

// The kinds of events.
const (
	ESend  = 1
	ESync  = 2
	EApply = 3
	EReply = 4
	ESnap  = 5
	EDown  = 6
	EEnd   = 7
)

// Event is what a step told.
type Event struct {
	Kind, Number int
	Data         []byte
	Reply        api.Reply
}

// The tasks, by the numbers that they end with.
const (
	loop    = 1
	writer  = 2
	applier = 3
	sender  = 4
)

// step is what a pick does.
type step struct {
	task int
	do   func() ([]Event, bool) // what it told, and whether there was anything to do
	over func() bool            // behind Stop, where there is nothing to do: whether the task may end
}

// stepsOf makes what a pick does to a node, by its kind.
func stepsOf(n *Node) map[int]step {
	always := func() bool { return true }
	behind := func(task int) func() bool {
		return func() bool { return n.ended[task] }
	}
	written := func() bool { return n.ended[loop] && n.jobs.Len() == 0 && len(n.held) == 0 }
	// The loop leaves what there is as soon as it is stopped; the others do it first.
	running := func(do func() ([]Event, bool)) func() ([]Event, bool) {
		return func() ([]Event, bool) {
			if n.stopped {
				return nil, false
			}
			return do()
		}
	}
	return map[int]step{
		PNotice: {loop, running(n.takeNotice), always},
		PWork:   {loop, running(n.takeWork), always},
		PInbox:  {loop, running(n.takeMessage), always},
		PTick:   {loop, running(n.takeTick), always},
		PCall:   {loop, running(n.takeCall), always},
		PWrite:  {writer, n.write, written},
		PSync:   {writer, n.sync, written},
		PApply:  {applier, n.takeApply, behind(loop)},
		PSend:   {sender, n.send, behind(writer)},
	}
}

// Pick lets a task do a step.
func (n *Node) Pick(kind int) ([]Event, bool) {
	s, ok := n.steps[kind]
	if !n.up || !ok {
		return nil, false
	}
	told, did := s.do()
	if did || !n.stopped || n.ended[s.task] || !s.over() {
		return told, did
	}
	n.ended[s.task] = true
	return []Event{{Kind: EEnd, Number: s.task}}, true
}

// Stop lets the tasks end.
func (n *Node) Stop() { n.stopped = n.stopped || n.up }

// Done tells whether all have ended.
func (n *Node) Done() bool {
	return n.ended[loop] && n.ended[writer] && n.ended[applier] && n.ended[sender]
}

// fall lets the node go down, and tells that behind what was told.
func (n *Node) fall(told []Event) []Event {
	n.up = false
	return append(told, Event{Kind: EDown})
}
