package node_test

import (
	"cmp"
	"slices"

	"synod/api"
	"synod/codec"
	"synod/core"
	"synod/disk"
	"synod/kv"
	"synod/node"
	"synod/snap"
	"synod/wal"
)

// The chapter once more, in other words: queues are plain lists with their rooms beside them, a notice is what it does to
// the core, a job is how it is written and what happens behind its sync, and every call of the core is written down.
type model struct {
	o           node.Opts
	d           *disk.Disk
	w           *wal.Wal
	c           *core.Core
	s           *kv.Store
	up, stopped bool
	over        [5]bool
	inbox       [][]byte
	ticks       []int
	calls       []node.Call
	notices     []func() bool // false: it stays the first
	jobs, held  []mjob
	applies     []core.Work
	lanes       [][]api.Message
	turn        int // the lane that was taken from last
	stored      api.Entry
	synced      int
	snap        int
	lastSnap    int
	coming      bool
	pending     []mcall
	waiting     []mcall
	told        []node.Event
	begun       func() *core.Core
	script      []input     // what was done to the core, in order
	works       []core.Work // what it told
	handed      []stand     // how it stood when it told each work with a number
	turns       int         // how many reads have become ready
}

// input is something that is done to a core, and the work that it told of it.
type input func(c *core.Core) core.Work

// stand is how a core stands, and its log.
type stand struct {
	core.Status
	base, baseTerm int
	entries        []api.Entry
}

// lastTerm is the term of its last entry, or of its base.
func (s stand) lastTerm() int {
	if n := len(s.entries); n > 0 {
		return s.entries[n-1].Term
	}
	return s.baseTerm
}

type mjob struct {
	work   bool
	number int
	write  func() api.Errno
	synced func() api.Errno
}

// mcall is a call that the core took: pending at an index and a term; or a read, ready at an index in its turn (0: not yet).
type mcall struct {
	id, index, term, turn int
	key                   string
}

func openModel(o node.Opts, d *disk.Disk, draw int) (*model, api.Errno) {
	w, _, e := wal.Open(d, o.Segment)
	if e != api.OK {
		return nil, e
	}
	s, _, _ := snap.Load(d)
	v := w.View()
	if v.Base > s.Index {
		return nil, api.ErrCorrupt
	}
	known := s.Index == 0 || s.Index == v.Base && (v.BaseTerm == 0 || s.Term == v.BaseTerm)
	var rest []api.Entry
	for _, x := range v.Entries {
		known = known || x.Index == s.Index && x.Term == s.Term
		if x.Index > s.Index {
			rest = append(rest, x)
		}
	}
	if !known {
		if e := cmp.Or(w.Append(wal.Batch{Index: s.Index, Term: s.Term}), w.Sync()); e != api.OK {
			return nil, e
		}
		rest = nil
	}
	store := kv.New()
	if s.Index > 0 {
		if store, e = kv.Restore(s.Data); e != api.OK {
			return nil, api.ErrCorrupt
		}
	}
	begun := func() *core.Core {
		c, _ := core.New(o.Core, v.State, s, rest, draw)
		return c
	}
	c, e := core.New(o.Core, v.State, s, rest, draw)
	if e != api.OK {
		return nil, e
	}
	return &model{
		o: o, d: d, w: w, c: c, s: store, up: true, begun: begun, lanes: make([][]api.Message, o.Core.Nodes), turn: -1,
		stored: api.Entry{Index: s.Index, Term: s.Term}, snap: s.Index, lastSnap: s.Index,
	}, api.OK
}

func (m *model) do(a node.Act) (t node.Told) {
	on := m.up && !m.stopped
	switch a.Kind {
	case node.ADeliver:
		if t.Did = on && len(m.inbox) < m.o.Inbox; t.Did {
			m.inbox = append(m.inbox, slices.Clone(a.Data))
		}
	case node.ATick:
		if t.Did = on && len(m.ticks) < m.o.Ticks; t.Did {
			m.ticks = append(m.ticks, a.N)
		}
	case node.ACall:
		x := a.Call.Command
		read := x.Op == api.OpGet && x.Client == 0 && x.Seq == 0 && x.Value+x.Old == "" && len(x.Key) > 0 && len(x.Key) <= api.MaxKey
		if !on {
			t.Reply.Code = api.RDown
		} else if !read && (codec.Commands{}).Check(x) != api.OK {
			t.Reply.Code = api.RLimit
		} else if len(m.calls) == m.o.Calls {
			t.Reply.Code = api.RBusy
		} else {
			m.calls = append(m.calls, a.Call)
			t.Did = true
		}
	case node.APick:
		t.Did = m.pick(a.N)
		t.Events = m.told
	case node.AStop:
		t.Did = on
		m.stopped = m.stopped || m.up
	}
	return t
}

func (m *model) tell(kind, number int, r api.Reply) {
	m.told = append(m.told, node.Event{Kind: kind, Number: number, Reply: r})
}

func (m *model) reply(id, code int) { m.tell(node.EReply, id, api.Reply{Code: code}) }

// input does something to the core, and writes it down.
func (m *model) input(f func(c *core.Core)) {
	f(m.c)
	m.wrote(f)
}

// wrote writes down what was done to the core.
func (m *model) wrote(f func(c *core.Core)) {
	m.script = append(m.script, func(c *core.Core) core.Work {
		f(c)
		return core.Work{}
	})
}

func (m *model) pick(kind int) bool {
	m.told = nil
	if !m.up || kind < 1 || kind > 9 {
		return false
	}
	task := []int{0, 1, 1, 1, 1, 1, 2, 2, 3, 4}[kind]
	if !(m.stopped && task == 1) && m.step(kind) {
		return true
	}
	idle := []bool{false, true, m.over[1] && len(m.jobs)+len(m.held) == 0, m.over[1], m.over[2]}[task]
	if !m.stopped || m.over[task] || !idle {
		return false
	}
	m.over[task] = true
	m.tell(node.EEnd, task, api.Reply{})
	return true
}

// first takes the first thing of a list.
func first[T any](l *[]T) (x T, ok bool) {
	if len(*l) == 0 {
		return x, false
	}
	x = (*l)[0]
	*l = slices.Clone((*l)[1:])
	return x, true
}

func (m *model) step(kind int) bool {
	ok := false
	switch kind {
	case node.PNotice:
		if len(m.notices) > 0 && m.notices[0]() {
			first(&m.notices)
			ok = true
		}
	case node.PWork:
		ok = len(m.jobs) < m.o.Jobs && len(m.applies) < m.o.Applies && m.work()
	case node.PInbox:
		var b []byte
		if b, ok = first(&m.inbox); ok {
			if x, e := message(b); e == api.OK {
				m.input(func(c *core.Core) { c.Step(x) })
			}
		}
	case node.PTick:
		var draw int
		if draw, ok = first(&m.ticks); ok {
			m.input(func(c *core.Core) { c.Tick(draw) })
		}
	case node.PCall:
		var c node.Call
		if c, ok = first(&m.calls); ok {
			m.call(c)
		}
	case node.PWrite:
		var j mjob
		if j, ok = first(&m.jobs); ok && m.alive(j.write()) {
			m.held = append(m.held, j)
		}
	case node.PSync:
		if ok = len(m.held) > 0; ok {
			m.sync()
		}
	case node.PApply:
		var w core.Work
		if w, ok = first(&m.applies); ok {
			m.apply(w)
		}
	case node.PSend:
		ok = m.send()
	}
	return ok
}

// alive lets it go down at an error.
func (m *model) alive(e api.Errno) bool {
	if e != api.OK {
		m.up = false
		m.tell(node.EDown, 0, api.Reply{})
	}
	return e == api.OK
}

func (m *model) work() bool {
	w, ok := m.c.Ready()
	m.script = append(m.script, func(c *core.Core) core.Work {
		w, _ := c.Ready()
		return w
	})
	if !ok {
		return false
	}
	m.works = append(m.works, w)
	m.mail(w.Now)
	if w.Number > 0 {
		base, term, entries := m.c.Log()
		m.handed = append(m.handed, stand{m.c.Status(), base, term, entries})
		m.jobs = append(m.jobs, m.workJob(w))
	}
	if w.Snap.Index+len(w.Apply)+len(w.Reads) > 0 {
		m.applies = append(m.applies, w)
	}
	for _, id := range w.Dropped {
		m.waiting = slices.DeleteFunc(m.waiting, func(x mcall) bool { return x.id == id })
		m.reply(id, api.RLead)
	}
	return true
}

func (m *model) mail(l []api.Message) {
	for _, x := range l {
		if len(m.lanes[x.To-1]) < m.o.Out {
			m.lanes[x.To-1] = append(m.lanes[x.To-1], x)
		}
	}
}

func (m *model) workJob(w core.Work) mjob {
	write := func() api.Errno {
		if w.Snap.Index > 0 {
			if w.HasState {
				early := w.State
				early.Commit = m.w.View().State.Commit
				if e := m.w.Append(wal.Batch{HasState: true, State: early}); e != api.OK {
					return e
				}
				if e := m.w.Sync(); e != api.OK {
					return e
				}
			}
			if e := snap.Save(m.d, w.Snap); e != api.OK {
				return e
			}
			m.snap = w.Snap.Index
		}
		return m.w.Append(wal.Batch{HasState: w.HasState, State: w.State, Index: w.Snap.Index, Term: w.Snap.Term, Entries: w.Entries})
	}
	synced := func() api.Errno {
		m.mail(w.After)
		m.notices = append(m.notices, func() bool {
			m.input(func(c *core.Core) { c.Synced(w.Number) })
			return true
		})
		return api.OK
	}
	return mjob{true, w.Number, write, synced}
}

func (m *model) saveJob(s api.Snap) mjob {
	write := func() api.Errno { return snap.Save(m.d, s) }
	synced := func() api.Errno {
		if _, e := m.w.Compact(s.Index); e != api.OK {
			return e
		}
		if _, e := snap.Keep(m.d, 2); e != api.OK {
			return e
		}
		m.notices = append(m.notices, func() bool {
			m.input(func(c *core.Core) { c.Compact(s, m.o.Keep) })
			return true
		})
		m.coming, m.snap = false, s.Index
		m.tell(node.ESnap, s.Index, api.Reply{})
		return api.OK
	}
	return mjob{false, 0, write, synced}
}

func (m *model) sync() {
	if !m.alive(m.w.Sync()) {
		return
	}
	number := 0
	for _, j := range m.held {
		if !m.alive(j.synced()) {
			return
		}
		number = max(number, j.number)
	}
	if slices.ContainsFunc(m.held, func(j mjob) bool { return j.work }) {
		m.synced = number
		m.tell(node.ESync, number, api.Reply{})
	}
	m.held = nil
}

func (m *model) call(c node.Call) {
	if c.Command.Op == api.OpGet {
		e := m.c.Read(c.ID)
		m.wrote(func(x *core.Core) { x.Read(c.ID) })
		switch e {
		case api.OK:
			m.waiting = append(m.waiting, mcall{id: c.ID, key: c.Command.Key})
		case api.ErrLead:
			m.reply(c.ID, api.RLead)
		default:
			m.reply(c.ID, api.RBusy)
		}
		return
	}
	text, _ := (codec.Commands{}).Put(c.Command)
	index, term, e := m.c.Propose(text)
	m.wrote(func(x *core.Core) { x.Propose(text) })
	switch e {
	case api.OK:
		m.lose(func(x mcall) bool { return x.index == index })
		m.pending = append(m.pending, mcall{id: c.ID, index: index, term: term})
	case api.ErrLead:
		m.reply(c.ID, api.RLead)
	case api.ErrLimit:
		m.reply(c.ID, api.RLimit)
	default:
		m.reply(c.ID, api.RBusy)
	}
}

// lose tells all pending ones of a kind, by rising indices, that they are lost.
func (m *model) lose(which func(x mcall) bool) {
	slices.SortFunc(m.pending, func(a, b mcall) int { return cmp.Compare(a.index, b.index) })
	for _, x := range m.pending {
		if which(x) {
			m.reply(x.id, api.RLost)
		}
	}
	m.pending = slices.DeleteFunc(m.pending, which)
}

func (m *model) apply(w core.Work) {
	if w.Snap.Index > 0 {
		store, e := kv.Restore(w.Snap.Data)
		if e != api.OK {
			store = kv.New()
		}
		m.s, m.lastSnap = store, w.Snap.Index
		m.stored = api.Entry{Index: w.Snap.Index, Term: w.Snap.Term}
		m.lose(func(x mcall) bool { return x.index <= w.Snap.Index })
	}
	for _, x := range w.Apply {
		m.applyEntry(x)
	}
	for _, r := range w.Reads {
		for i := range m.waiting {
			if m.waiting[i].id == r.ID {
				m.turns++
				m.waiting[i].index, m.waiting[i].turn = r.Index, m.turns
			}
		}
	}
	// Those that are ready stand behind the others, in the order in which they became so.
	slices.SortStableFunc(m.waiting, func(a, b mcall) int { return cmp.Compare(a.turn, b.turn) })
	if at := m.stored.Index; w.Snap.Index+len(w.Apply) > 0 {
		m.notices = append(m.notices, func() bool {
			m.input(func(c *core.Core) { c.Applied(at) })
			return true
		})
	}
	var left []mcall
	for _, x := range m.waiting {
		if x.turn > 0 && x.index <= m.stored.Index {
			m.tell(node.EReply, x.id, m.s.Get(x.key))
		} else {
			left = append(left, x)
		}
	}
	m.waiting = left
	if m.o.Every > 0 && !m.coming && m.stored.Index-m.lastSnap >= m.o.Every {
		s := api.Snap{Index: m.stored.Index, Term: m.stored.Term, Data: m.s.Snapshot()}
		m.coming, m.lastSnap = true, s.Index
		m.notices = append(m.notices, func() bool {
			room := len(m.jobs) < m.o.Jobs
			if room {
				m.jobs = append(m.jobs, m.saveJob(s))
			}
			return room
		})
	}
}

func (m *model) applyEntry(x api.Entry) {
	r := api.Reply{Code: api.RLost}
	if c, e := (codec.Commands{}).Get(x.Data); e == api.OK && x.Kind == api.ECommand {
		r, _ = m.s.Do(c)
	}
	m.tell(node.EApply, x.Index, api.Reply{})
	m.stored = x
	mine := func(p mcall) bool { return p.index == x.Index && p.term == x.Term }
	for _, p := range m.pending {
		if mine(p) {
			m.tell(node.EReply, p.id, r)
		}
	}
	m.pending = slices.DeleteFunc(m.pending, mine)
	m.lose(func(p mcall) bool { return p.index == x.Index })
}

func (m *model) send() bool {
	n := len(m.lanes)
	for i := 1; i <= n; i++ {
		lane := (m.turn + i) % n
		if x, ok := first(&m.lanes[lane]); ok {
			m.turn = lane
			m.told = append(m.told, node.Event{Kind: node.ESend, Number: lane + 1, Data: framed(x)})
			return true
		}
	}
	return false
}

func (m *model) view() node.View {
	v := node.View{
		Core: m.c.Status(), Up: m.up, Stopped: m.stopped, Stored: m.stored.Index, Synced: m.synced, Snap: m.snap,
		Notices: len(m.notices), Inbox: len(m.inbox), Ticks: len(m.ticks), Calls: len(m.calls), Jobs: len(m.jobs),
		Held: len(m.held), Applies: len(m.applies), Waiting: len(m.waiting), Pending: len(m.pending),
	}
	for _, l := range m.lanes {
		v.Out += len(l)
	}
	return v
}
