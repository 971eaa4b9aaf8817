package wal_test

import (
	"bytes"
	"encoding/binary"
	"math/rand/v2"
	"slices"
	"testing"

	"synod/api"
	"synod/disk"
	"synod/wal"
)

// note is a record of the model.
type note struct {
	kind, number, index, term int
	state                     api.State
	entry                     api.Entry
}

// bytes is its text.
func (x note) bytes() []byte {
	switch x.kind {
	case 0:
		return numbers(0, x.number, x.state.Term, x.state.Vote, x.state.Commit, x.index, x.term)
	case 1:
		return numbers(1, x.state.Term, x.state.Vote, x.state.Commit)
	case 2:
		return entryText(x.entry)
	case 3:
		return numbers(3, x.index, x.term)
	}
	return nil
}

// may tells whether the chapter knows such a record.
func (x note) may() bool {
	within := func(n, least int) bool { return n >= least && n <= 1<<62 }
	s, e := x.state, x.entry
	stateMay := within(s.Term, 0) && s.Vote >= 0 && s.Vote <= 7 && within(s.Commit, 0) && (s.Vote == 0 || s.Term > 0)
	switch x.kind {
	case 0:
		return within(x.number, 0) && stateMay && within(x.index, 0) && within(x.term, 0)
	case 1:
		return stateMay
	case 2:
		return within(e.Term, 1) && within(e.Index, 1) && (e.Kind == 0 && len(e.Data) == 0 || e.Kind == 1 && len(e.Data) <= 4096)
	case 3:
		return within(x.index, 1) && within(x.term, 1)
	}
	return false
}

// noteOf reads a text as loosely as the library does; what it read must be the very same bytes again.
func noteOf(text []byte) (note, bool) {
	rest := text
	next := func() int {
		n, size := binary.Uvarint(rest)
		rest = rest[max(size, 0):]
		return int(n)
	}
	x := note{kind: next()}
	switch x.kind {
	case 0:
		x.number = next()
		x.state = api.State{Term: next(), Vote: next(), Commit: next()}
		x.index, x.term = next(), next()
	case 1:
		x.state = api.State{Term: next(), Vote: next(), Commit: next()}
	case 2:
		next()
		x.entry = api.Entry{Term: next(), Index: next(), Kind: next()}
		next()
		x.entry.Data = rest
	case 3:
		x.index, x.term = next(), next()
	}
	return x, x.may() && bytes.Equal(x.bytes(), text)
}

// unlaid is the payloads of the whole frames that bytes begin with, and how many bytes these have.
func unlaid(b []byte) ([][]byte, int) {
	var l [][]byte
	at := 0
	for len(b)-at >= 8 {
		n := int(binary.LittleEndian.Uint32(b[at:]))
		if n > api.MaxFrame || at+8+n > len(b) || !bytes.Equal(laid(b[at+8:at+8+n]), b[at:at+8+n]) {
			break
		}
		l = append(l, b[at+8:at+8+n])
		at += 8 + n
	}
	return l, at
}

// kept is an entry of the model's view, and the segment in which it stands.
type kept struct {
	api.Entry
	in int
}

// model is the chapter's wal, told step by step, on a disk of its own.
type model struct {
	d       *disk.Disk
	limit   int
	numbers []int
	state   api.State
	base    int
	term    int
	log     []kept
	broken  bool
}

// last is the last index, and its term.
func (m *model) last() (int, int) {
	if len(m.log) == 0 {
		return m.base, m.term
	}
	e := m.log[len(m.log)-1]
	return e.Index, e.Term
}

// has tells whether the view has an index and a term.
func (m *model) has(index, term int) bool {
	if index == m.base && term == m.term {
		return true
	}
	for _, e := range m.log {
		if e.Index == index && e.Term == term {
			return true
		}
	}
	return false
}

// learn is what a record does to the view; false: it is a gap.
func (m *model) learn(x note, in int) bool {
	switch x.kind {
	case 1:
		m.state = x.state
	case 2:
		last, _ := m.last()
		switch i := x.entry.Index; {
		case i > last+1:
			return false
		case i <= m.base:
			m.log, m.base, m.term = nil, i-1, 0
		default:
			m.log = slices.Clone(m.log[:i-m.base-1])
		}
		m.log = append(m.log, kept{x.entry, in})
	case 3:
		if !m.has(x.index, x.term) {
			m.log, m.base, m.term = nil, x.index, x.term
		}
	}
	return true
}

// write does writes of the disk one behind the other, up to the first error.
func write(writes ...func() api.Errno) api.Errno {
	for _, f := range writes {
		if e := f(); e != api.OK {
			return e
		}
	}
	return api.OK
}

func (m *model) end() int { return m.numbers[len(m.numbers)-1] }

func (m *model) create(n int) func() api.Errno {
	return func() api.Errno { return m.d.Create(name(n)) }
}

func (m *model) sync(n int) func() api.Errno {
	return func() api.Errno { return m.d.Sync(name(n)) }
}

func (m *model) lay(n int, l ...note) func() api.Errno {
	var b []byte
	for _, x := range l {
		b = append(b, laid(x.bytes())...)
	}
	return func() api.Errno { return m.d.Append(name(n), b) }
}

// front is the head of a segment, as the view is now.
func (m *model) front(n int) note {
	index, term := m.last()
	return note{kind: 0, number: n, state: m.state, index: index, term: term}
}

// openModel is Open.
func openModel(d *disk.Disk, limit int) (*model, bool, api.Errno) {
	m := &model{d: d, limit: limit}
	for _, s := range d.List() {
		if n, is := wal.Number(s); is {
			m.numbers = append(m.numbers, n)
		}
	}
	if len(m.numbers) == 0 {
		m.numbers = []int{1}
		e := write(m.create(1), m.lay(1, m.front(1)), m.sync(1))
		return m, false, e
	}
	for i, n := range m.numbers {
		if n != m.numbers[0]+i {
			return nil, false, api.ErrCorrupt
		}
	}
	repaired := false
	for i, n := range m.numbers {
		r, e := m.read(i, n)
		if e != api.OK {
			return nil, false, e
		}
		repaired = repaired || r
	}
	if b, _ := d.Read(name(m.end())); len(b) == 0 {
		if e := m.mend(); e != api.OK {
			return nil, false, e
		}
		repaired = true
	}
	return m, repaired, m.sync(m.end())()
}

// read reads the i-th segment, of the number n.
func (m *model) read(i, n int) (bool, api.Errno) {
	b, _ := m.d.Read(name(n))
	texts, whole := unlaid(b)
	torn, isLast := whole < len(b), i == len(m.numbers)-1
	if !isLast && (torn || len(texts) == 0) {
		return false, api.ErrCorrupt
	}
	if torn {
		if e := m.d.Cut(name(n), whole); e != api.OK {
			return false, e
		}
	}
	for j, text := range texts {
		x, may := noteOf(text)
		if !may || (j == 0) != (x.kind == 0) || j == 0 && x.number != n {
			return false, api.ErrCorrupt
		}
		if j == 0 && i == 0 {
			m.state, m.base, m.term = x.state, x.index, x.term
		}
		if j == 0 && say(x) != say(m.front(n)) || !m.learn(x, n) {
			return false, api.ErrCorrupt
		}
	}
	return torn, api.OK
}

// mend is what becomes of a last segment without a whole frame.
func (m *model) mend() api.Errno {
	n := m.end()
	switch {
	case len(m.numbers) > 1:
		m.numbers = m.numbers[:len(m.numbers)-1]
		return m.d.Remove(name(n))
	case n != 1:
		return api.ErrCorrupt
	}
	return write(m.lay(1, m.front(1)), m.sync(1))
}

// clone is a model on the same disk whose view may be changed.
func (m *model) clone() *model {
	c := *m
	c.log = slices.Clone(m.log)
	return &c
}

// wrong is the error of a batch.
func (m *model) wrong(b wal.Batch) api.Errno {
	s := b.State
	bad := func(n int) bool { return n < 0 || n > 1<<62 }
	switch {
	case !b.HasState:
	case bad(s.Term) || bad(s.Commit) || s.Vote < 0 || s.Vote > 7:
		return api.ErrRange
	case s.Vote > 0 && s.Term == 0:
		return api.ErrForm
	}
	if bad(b.Index) || bad(b.Term) || b.Index == 0 && b.Term > 0 || b.Index > 0 && b.Term == 0 {
		return api.ErrRange
	}
	for _, e := range b.Entries {
		switch {
		case bad(e.Term) || bad(e.Index) || e.Term == 0 || e.Index == 0:
			return api.ErrRange
		case e.Kind != 0 && e.Kind != 1:
			return api.ErrKind
		case len(e.Data) > 4096:
			return api.ErrLong
		case e.Kind == 0 && len(e.Data) > 0:
			return api.ErrForm
		}
	}
	c := m.clone()
	if b.Index > 0 {
		c.learn(note{kind: 3, index: b.Index, term: b.Term}, 0)
	}
	for _, e := range b.Entries {
		if !c.learn(note{kind: 2, entry: e}, 0) {
			return api.ErrGap
		}
	}
	return api.OK
}

// notes is a batch's records.
func (m *model) notes(b wal.Batch) []note {
	var l []note
	if b.HasState && (b.State.Term != m.state.Term || b.State.Vote != m.state.Vote) {
		l = append(l, note{kind: 1, state: api.State{Term: b.State.Term, Vote: b.State.Vote, Commit: m.state.Commit}})
	}
	if b.Index > 0 && !m.has(b.Index, b.Term) {
		l = append(l, note{kind: 3, index: b.Index, term: b.Term})
	}
	for _, e := range b.Entries {
		l = append(l, note{kind: 2, entry: e})
	}
	if b.HasState && b.State.Commit != m.state.Commit {
		l = append(l, note{kind: 1, state: b.State})
	}
	return l
}

// failed notes that the disk had an error.
func (m *model) failed(e api.Errno) api.Errno {
	m.broken = e != api.OK
	return e
}

func (m *model) Append(b wal.Batch) api.Errno {
	if m.broken {
		return api.ErrDown
	}
	if e := m.wrong(b); e != api.OK {
		return e
	}
	at := m.end()
	if data, _ := m.d.Read(name(at)); len(data) >= m.limit {
		if e := write(m.sync(at), m.create(at+1), m.lay(at+1, m.front(at+1)), m.sync(at+1)); e != api.OK {
			return m.failed(e)
		}
		m.numbers = append(m.numbers, at+1)
		at++
	}
	l := m.notes(b)
	if len(l) == 0 {
		return api.OK
	}
	if e := m.lay(at, l...)(); e != api.OK {
		return m.failed(e)
	}
	for _, x := range l {
		m.learn(x, at)
	}
	return api.OK
}

func (m *model) Sync() api.Errno {
	if m.broken {
		return api.ErrDown
	}
	return m.failed(m.sync(m.end())())
}

func (m *model) Compact(index int) (int, api.Errno) {
	last, _ := m.last()
	switch {
	case m.broken:
		return 0, api.ErrDown
	case index < 0 || index > last:
		return 0, api.ErrRange
	}
	if e := m.sync(m.end())(); e != api.OK {
		return 0, m.failed(e)
	}
	was, n := m.clone(), 0
	for m.numbers[0] != m.end() && !m.needed(m.numbers[0], index) {
		if e := m.d.Remove(name(m.numbers[0])); e != api.OK {
			*m = *was
			return 0, m.failed(e)
		}
		for len(m.log) > 0 && m.log[0].in == m.numbers[0] {
			m.base, m.term = m.log[0].Index, m.log[0].Term
			m.log = m.log[1:]
		}
		m.numbers = m.numbers[1:]
		n++
	}
	return n, api.OK
}

// needed tells whether an entry above an index stands in a segment.
func (m *model) needed(in, index int) bool {
	return slices.ContainsFunc(m.log, func(e kept) bool { return e.in == in && e.Index > index })
}

// View is the view.
func (m *model) View() wal.View {
	v := wal.View{State: m.state, Base: m.base, BaseTerm: m.term}
	for _, e := range m.log {
		v.Entries = append(v.Entries, e.Entry)
	}
	return v
}

// names is the segments' names.
func (m *model) names() []string {
	var l []string
	for _, n := range m.numbers {
		l = append(l, name(n))
	}
	return l
}

// bytes is how many bytes they have.
func (m *model) bytes() int {
	size := 0
	for _, n := range m.numbers {
		b, _ := m.d.Read(name(n))
		size += len(b)
	}
	return size
}

// play is a wal and its model, which are told the same.
type play struct {
	t    *testing.T
	pick *rand.Rand
	d    *disk.Disk
	w    *wal.Wal
	m    *model
	told string // what was told, for a fault's report
}

// begins opens a wal and its model, each on a disk of these files, armed alike (0: not at all); false: both were refused.
func (p *play) begins(files []api.File, limit, arm int) bool {
	p.t.Helper()
	p.told += say("\nopen ", limit, " arm ", arm)
	p.d = load(p.t, files...)
	d := load(p.t, files...)
	p.d.Arm(arm)
	d.Arm(arm)
	return p.opens(d, limit)
}

// opens opens both.
func (p *play) opens(d *disk.Disk, limit int) bool {
	p.t.Helper()
	w, r, e := wal.Open(p.d, limit)
	m, s, f := openModel(d, limit)
	if f != api.OK {
		m, s = nil, false
	}
	if e != f || r != s || (w == nil) != (m == nil) || filesOf(p.d) != filesOf(d) || p.d.Down() != d.Down() {
		p.t.Fatalf("Open: %t, %d; not %t, %d;\n%s\n%s\nbehind%s", r, e, s, f, filesOf(p.d), filesOf(d), p.told)
	}
	p.w, p.m = w, m
	if w != nil {
		p.same()
	}
	return w != nil
}

// same holds all that the wal tells against the model.
func (p *play) same() {
	p.t.Helper()
	index, term := p.w.Last()
	i, u := p.m.last()
	if have, want := say(p.w.View()), say(p.m.View()); have != want || index != i || term != u {
		p.t.Fatalf("the view is %s; not %s; behind%s", have, want, p.told)
	}
	if filesOf(p.d) != filesOf(p.m.d) || p.d.Down() != p.m.d.Down() {
		p.t.Fatalf("the disk is\n%s; not\n%s; behind%s", filesOf(p.d), filesOf(p.m.d), p.told)
	}
	if !p.m.broken && (say(p.w.Segments()) != say(p.m.names()) || p.w.Bytes() != p.m.bytes()) {
		p.t.Fatalf("%v, %d; not %v, %d; behind%s", p.w.Segments(), p.w.Bytes(), p.m.names(), p.m.bytes(), p.told)
	}
}

// anyNumber is one near to some others, or at an edge.
func (p *play) anyNumber(near int) int {
	switch p.pick.IntN(12) {
	case 0:
		return []int{-1, 0, 1, api.MaxIndex, api.MaxIndex + 1}[p.pick.IntN(5)]
	case 1, 2:
		return p.pick.IntN(near + 3)
	}
	return max(0, near-2+p.pick.IntN(4))
}

// anyBatch is one that is often right; if it is, its entries mostly go on behind the last.
func (p *play) anyBatch() wal.Batch {
	var b wal.Batch
	last, _ := p.m.last()
	if p.pick.IntN(3) == 0 {
		b.HasState = p.pick.IntN(8) > 0
		b.State = api.State{Term: p.anyNumber(p.m.state.Term + 1), Vote: p.pick.IntN(4), Commit: p.anyNumber(last)}
	}
	next := last + 1
	if p.pick.IntN(6) == 0 {
		b.Index, b.Term = p.anyNumber(last), p.anyNumber(3)
		if p.pick.IntN(2) == 0 && len(p.m.log) > 0 {
			e := p.m.log[p.pick.IntN(len(p.m.log))]
			b.Index, b.Term = e.Index, e.Term
		} else if p.pick.IntN(2) == 0 {
			next = b.Index + 1
		}
	}
	if p.pick.IntN(4) == 0 {
		next = p.anyNumber(last)
	}
	for range p.pick.IntN(4) {
		e := api.Entry{Term: 1 + p.pick.IntN(5), Index: next, Kind: p.pick.IntN(2)}
		if e.Kind == 1 {
			e.Data = bytes.Repeat([]byte{byte('a' + p.pick.IntN(26))}, p.pick.IntN(40))
		}
		if p.pick.IntN(60) == 0 {
			e = []api.Entry{{}, {Term: 1, Index: next, Kind: 7}, {Term: 1, Index: next, Data: []byte("x")}, {Term: 1, Index: next, Kind: 1, Data: make([]byte, 4097)}}[p.pick.IntN(4)]
		}
		b.Entries = append(b.Entries, e)
		next = max(next, 0) + 1
		if p.pick.IntN(15) == 0 {
			next = p.anyNumber(next)
		}
	}
	return b
}

// calls lets both do one call.
func (p *play) calls() {
	p.t.Helper()
	var have, want string
	switch p.pick.IntN(8) {
	case 0:
		p.told += "\nsync"
		have, want = say(p.w.Sync()), say(p.m.Sync())
	case 1:
		last, _ := p.m.last()
		index := p.anyNumber(last)
		p.told += say("\ncompact ", index)
		n, e := p.w.Compact(index)
		m, f := p.m.Compact(index)
		have, want = say(n, e), say(m, f)
	default:
		b := p.anyBatch()
		p.told += say("\nappend ", b)
		have, want = say(p.w.Append(b)), say(p.m.Append(b))
	}
	if have != want {
		p.t.Fatalf("%s; not %s; behind%s", have, want, p.told)
	}
	p.same()
}

// spoils changes a disk's bytes here and there.
func (p *play) spoils(files []api.File) []api.File {
	for range 1 + p.pick.IntN(2) {
		i := p.pick.IntN(len(files))
		f := &files[i]
		switch p.pick.IntN(8) {
		case 0:
			f.Data = f.Data[:p.pick.IntN(len(f.Data)+1)]
		case 1:
			f.Data = append(f.Data, byte(p.pick.IntN(256)))
		case 2:
			if len(f.Data) > 0 {
				f.Data[p.pick.IntN(len(f.Data))] ^= 1 << p.pick.IntN(8)
			}
		case 3:
			f.Data = nil
		case 4:
			f.Name = name(1 + p.pick.IntN(6))
		case 5:
			// A record more, somewhere among the others: any one at all.
			texts, whole := unlaid(f.Data)
			texts = slices.Insert(texts, p.pick.IntN(len(texts)+1), p.anyText())
			f.Data = append(joined(texts), f.Data[whole:]...)
		case 6:
			// One fewer, or one twice.
			if texts, whole := unlaid(f.Data); len(texts) > 0 {
				at := p.pick.IntN(len(texts))
				if p.pick.IntN(2) == 0 {
					texts = slices.Delete(texts, at, at+1)
				} else {
					texts = slices.Insert(texts, at, texts[at])
				}
				f.Data = append(joined(texts), f.Data[whole:]...)
			}
		case 7:
			files = slices.Delete(files, i, i+1)
		}
		if len(files) == 0 {
			break
		}
	}
	return tidied(files)
}

// joined is texts in their frames.
func joined(texts [][]byte) []byte {
	var b []byte
	for _, text := range texts {
		b = append(b, laid(text)...)
	}
	return b
}

// tidied is files that a disk may have: no name twice, and all bytes durable.
func tidied(files []api.File) []api.File {
	var l []api.File
	for _, f := range files {
		f.Synced = len(f.Data)
		if !slices.ContainsFunc(l, func(g api.File) bool { return g.Name == f.Name }) {
			l = append(l, f)
		}
	}
	return l
}

// anyText is a record's text, right or nearly.
func (p *play) anyText() []byte {
	n := func() int { return p.anyNumber(3) }
	b := [][]byte{numbers(0, n(), n(), n(), n(), n(), n()), numbers(1, n(), n(), n()), entryText(empty(n(), n())), numbers(3, n(), n()), numbers(n(), n())}[p.pick.IntN(5)]
	if p.pick.IntN(8) == 0 {
		b = append(b, 0)
	}
	return b
}

// Whatever is called, fails, crashes and is opened again, the wal tells what the chapter says, and so does its disk.
func TestP5_9_AsTheModel(t *testing.T) {
	opened, refused, failed := 0, 0, 0
	for seed := range uint64(600) {
		p := &play{t: t, pick: rand.New(rand.NewPCG(5, seed))}
		limit := 64 + p.pick.IntN(100)
		if !p.begins([]api.File{file("a", []byte("other"))}, limit, p.pick.IntN(2)*p.pick.IntN(6)) {
			failed++
			continue
		}
		for range 40 {
			switch p.pick.IntN(25) {
			case 0:
				n := 1 + p.pick.IntN(6)
				p.told += say("\narm ", n)
				p.d.Arm(n)
				p.m.d.Arm(n)
			case 1, 2:
				keep := p.pick.IntN(60)
				p.told += say("\ncrash ", keep, ", open")
				p.d.Crash(keep)
				p.m.d.Crash(keep)
				if !p.opens(p.m.d, limit) {
					t.Fatalf("Open behind a crash is refused, behind%s", p.told)
				}
				opened++
			default:
				p.calls()
			}
		}
		// A disk that was spoilt is opened as the chapter says, or refused.
		files := p.d.Files()
		for range 12 {
			q := &play{t: t, pick: p.pick, told: p.told + "\nspoilt"}
			copies := load(t, files...).Files()
			if q.begins(q.spoils(copies), limit, p.pick.IntN(2)*p.pick.IntN(5)) {
				opened++
				q.calls()
			} else {
				refused++
			}
		}
	}
	if opened < 1000 || refused < 1000 || failed < 10 {
		t.Errorf("%d opened, %d refused, %d failed: too few to tell", opened, refused, failed)
	}
}
