package raftlog_test

import (
	"maps"
	"math"
	"math/rand/v2"
	"slices"
	"strings"
	"testing"

	"synod/api"
	"synod/raftlog"
)

// The chapter once more, in other words: a log is what stands at each index, and five numbers.
type model struct {
	base, baseTerm                               int
	at                                           map[int]api.Entry
	handed, stable, committed, applying, applied int
}

// newModel is a model of a log that may be.
func newModel(index, term, commit int, entries []api.Entry) *model {
	m := &model{base: index, baseTerm: term, at: map[int]api.Entry{}}
	m.lay(entries)
	m.handed, m.stable = m.last(), m.last()
	m.committed, m.applying, m.applied = index, index, index
	m.commit(commit)
	return m
}

func (m *model) lay(entries []api.Entry) {
	for _, x := range entries {
		x.Data = slices.Clone(x.Data)
		m.at[x.Index] = x
	}
}

func (m *model) last() int { return m.base + len(m.at) }

func (m *model) term(index int) (int, api.Errno) {
	x, ok := m.at[index]
	switch {
	case index == m.base:
		return m.baseTerm, api.OK
	case ok:
		return x.Term, api.OK
	case index < m.base:
		return 0, api.ErrGone
	}
	return 0, api.ErrNone
}

func (m *model) has(index, term int) bool {
	u, e := m.term(index)
	return e == api.OK && u == term
}

// from is the entries from an index on, up to another, and at most so many.
func (m *model) from(index, to, most int) []api.Entry {
	var l []api.Entry
	for ; index <= to && len(l) < most; index++ {
		l = append(l, m.at[index])
	}
	return l
}

func (m *model) append(term, kind int, data []byte) (int, api.Errno) {
	lastTerm, _ := m.term(m.last())
	switch {
	case m.last() == top:
		return 0, api.ErrLimit
	case len(m.at) == api.MaxLog:
		return 0, api.ErrFull
	case term < lastTerm || term < 1 || term > top:
		return 0, api.ErrRange
	case kind < 0 || kind > 1:
		return 0, api.ErrKind
	case len(data) > 4096:
		return 0, api.ErrLong
	case kind == 0 && len(data) > 0:
		return 0, api.ErrForm
	}
	m.lay([]api.Entry{{Term: term, Index: m.last() + 1, Kind: kind, Data: data}})
	return m.last(), api.OK
}

func (m *model) try(index, term, commit int, entries []api.Entry) (int, bool) {
	if !m.has(index, term) {
		return 0, false
	}
	for i, x := range entries {
		if m.has(x.Index, x.Term) {
			continue
		}
		if x.Index <= m.committed || x.Index-1-m.base+len(entries[i:]) > 10000 {
			return 0, false
		}
		maps.DeleteFunc(m.at, func(at int, _ api.Entry) bool { return at >= x.Index })
		m.lay(entries[i:])
		m.handed, m.stable = min(m.handed, x.Index-1), min(m.stable, x.Index-1)
		break
	}
	sum := index + len(entries)
	m.commit(min(commit, sum))
	return sum, true
}

func (m *model) hint(index, term int) int {
	best := m.base
	for at, x := range m.at {
		if at <= index && x.Term <= term && at > best {
			best = at
		}
	}
	return best
}

func (m *model) commit(index int) bool {
	was := m.committed
	for m.committed < index && m.committed < m.last() {
		m.committed++
	}
	return m.committed > was
}

func (m *model) hand() []api.Entry {
	l := m.from(m.handed+1, m.last(), math.MaxInt)
	m.handed = m.last()
	return l
}

func (m *model) makeStable(index, term int) bool {
	if index <= m.stable || index > m.handed || !m.has(index, term) {
		return false
	}
	m.stable = index
	return true
}

func (m *model) next(most int) []api.Entry {
	l := m.from(m.applying+1, min(m.committed, m.stable), most)
	m.applying += len(l)
	return l
}

func (m *model) apply(index int) bool {
	if index <= m.applied || index > m.applying {
		return false
	}
	m.applied = index
	return true
}

func (m *model) compact(index int) api.Errno {
	switch {
	case index < m.base:
		return api.ErrGone
	case index > m.applied:
		return api.ErrRange
	}
	m.baseTerm, _ = m.term(index)
	m.base = index
	maps.DeleteFunc(m.at, func(at int, _ api.Entry) bool { return at <= index })
	return api.OK
}

func (m *model) restore(index, term int) api.Errno {
	if index < 1 || index > top || term < 1 || term > top || index <= m.committed {
		return api.ErrRange
	}
	*m = *newModel(index, term, index, nil)
	return api.OK
}

func (m *model) whole() string {
	return say(m.base, m.baseTerm, ";", shown(m.from(m.base+1, m.last(), math.MaxInt)), ";", m.handed, m.stable, m.committed, m.applying, m.applied)
}

// player plays calls on a log and on its model, and holds the answers against each other.
type player struct {
	t     *testing.T
	r     *rand.Rand
	l     *raftlog.Log
	m     *model
	calls map[string]int
	log   []string
}

func newPlayer(t *testing.T, seed uint64) *player {
	return &player{t: t, r: rand.New(rand.NewPCG(seed, 8)), calls: map[string]int{}}
}

// begin makes a new log.
func (p *player) begin(index, term, commit int, entries []api.Entry) {
	p.l, p.m = made(p.t, index, term, commit, entries...), newModel(index, term, commit, entries)
	p.log = []string{say("New", index, term, commit, shown(entries))}
	p.same("New", "New", whole(p.t, p.l), p.m.whole())
}

// same holds a call's answer against the model's, and counts the kind of answer.
func (p *player) same(call, kind, have, want string) {
	p.t.Helper()
	p.log = append(p.log, call)
	p.calls[kind]++
	if have != want {
		p.t.Fatalf("%s:\n%s is %s; the model has %s", strings.Join(p.log[max(0, len(p.log)-40):], "; "), call, have, want)
	}
}

// enough tells of kinds of answers that the plays had too seldom.
func (p *player) enough(least int, kinds ...string) {
	p.t.Helper()
	for _, k := range kinds {
		if p.calls[k] < least {
			p.t.Errorf("%s: %d times alone", k, p.calls[k])
		}
	}
}

// index is mostly one within the log, or at its ends, or at a mark.
func (p *player) index() int {
	m := p.m
	switch p.r.IntN(12) {
	case 0:
		return far()[p.r.IntN(len(far()))]
	case 1:
		return p.r.IntN(3)
	case 2, 3, 4:
		return []int{m.handed, m.stable, m.committed, m.applying, m.applied}[p.r.IntN(5)] + p.r.IntN(3) - 1
	case 5:
		return m.last() + p.r.IntN(4)
	}
	return m.base + p.r.IntN(len(m.at)+2)
}

// termOf is mostly an index's term.
func (p *player) termOf(index int) int {
	term, e := p.m.term(index)
	switch {
	case e != api.OK:
		term = p.r.IntN(4)
	case p.r.IntN(8) == 0:
		term += p.r.IntN(3) - 1
	case p.r.IntN(60) == 0:
		term = far()[p.r.IntN(len(far()))]
	}
	return term
}

// data is an entry's, told from all others.
func (p *player) data() []byte { return []byte(say("d", len(p.log))) }

// behind is entries that may stand in a message behind a place: those of the log at first, it may be.
func (p *player) behind(index, term int) []api.Entry {
	if index < 0 || index > top || term < 0 || term > top || (index == 0) != (term == 0) {
		return nil
	}
	var l []api.Entry
	there := p.r.IntN(5)
	for i := range p.r.IntN(6) {
		x := api.Entry{Index: index + 1 + i}
		if x.Index > top {
			break
		}
		have, ok := p.m.at[x.Index]
		if ok && i < there && have.Term >= term {
			x = have
		} else {
			x.Term = min(top, max(1, term)+p.r.IntN(3)*p.r.IntN(2))
			if p.r.IntN(2) == 0 {
				x.Kind, x.Data = api.ECommand, p.data()
			}
		}
		term = x.Term
		l = append(l, x)
	}
	return l
}

// step makes a call of any kind, and tells which.
func (p *player) step() string {
	p.t.Helper()
	call := [](func() string){p.reads, p.append, p.append, p.try, p.try, p.commit, p.hand, p.stable, p.next, p.applied, p.compact, p.restore}[p.r.IntN(12)]()
	p.same("then", "then", whole(p.t, p.l), p.m.whole())
	return call
}

func (p *player) reads() string {
	l, m, index, most := p.l, p.m, p.index(), p.r.IntN(8)-2
	term := p.termOf(index)
	p.same(say("Term", index), "Term", say(l.Term(index)), say(m.term(index)))
	p.same(say("Has", index, term), say("Has", m.has(index, term)), say(l.Has(index, term)), say(m.has(index, term)))
	lastTerm, _ := m.term(m.last())
	newer := term > lastTerm || term == lastTerm && index >= m.last()
	p.same(say("Newer", index, term), say("Newer", newer), say(l.Newer(index, term)), say(newer))
	p.same(say("Hint", index, term), "Hint", say(l.Hint(index, term)), say(m.hint(index, term)))
	want, e := "", api.OK
	switch {
	case index <= m.base:
		e = api.ErrGone
	case index > m.last()+1:
		e = api.ErrNone
	default:
		want = shown(m.from(index, m.last(), most))
	}
	have, err := l.Entries(index, most)
	p.same(say("Entries", index, most), say("Entries", err), say(shown(have), err), say(want, e))
	return "reads"
}

func (p *player) append() string {
	term, kind, data := p.termOf(p.m.last())+p.r.IntN(2)*p.r.IntN(2), p.r.IntN(2), p.data()
	if kind == api.EEmpty && p.r.IntN(20) > 0 {
		data = nil
	}
	switch p.r.IntN(60) {
	case 0:
		kind = p.r.IntN(9) - 4
	case 1:
		data = make([]byte, api.MaxData+p.r.IntN(2))
	}
	n, e := p.l.Append(term, kind, data)
	p.same(say("Append", term, kind, len(data)), say("Append", e), say(n, e), say(p.m.append(term, kind, data)))
	return "Append"
}

func (p *player) try() string {
	index, commit := p.index(), p.index()
	term := p.termOf(index)
	entries := p.behind(index, term)
	n, ok := p.l.Try(index, term, commit, entries)
	p.same(say("Try", index, term, commit, shown(entries)), say("Try", ok), say(n, ok), say(p.m.try(index, term, commit, entries)))
	return "Try"
}

func (p *player) commit() string {
	index := p.index()
	ok := p.l.Commit(index)
	p.same(say("Commit", index), say("Commit", ok), say(ok), say(p.m.commit(index)))
	return "Commit"
}

func (p *player) hand() string {
	l := p.l.Hand()
	p.same("Hand", say("Hand", len(l) > 0), shown(l), shown(p.m.hand()))
	return "Hand"
}

func (p *player) stable() string {
	index := p.index()
	term := p.termOf(index)
	ok := p.l.Stable(index, term)
	p.same(say("Stable", index, term), say("Stable", ok), say(ok), say(p.m.makeStable(index, term)))
	return "Stable"
}

func (p *player) next() string {
	most := p.r.IntN(6) - 1
	l := p.l.Next(most)
	p.same(say("Next", most), say("Next", len(l) > 0), shown(l), shown(p.m.next(most)))
	return "Next"
}

func (p *player) applied() string {
	index := p.index()
	ok := p.l.Applied(index)
	p.same(say("Applied", index), say("Applied", ok), say(ok), say(p.m.apply(index)))
	return "Applied"
}

func (p *player) compact() string {
	index := p.index()
	e := p.l.Compact(index)
	p.same(say("Compact", index), say("Compact", e), say(e), say(p.m.compact(index)))
	return "Compact"
}

// Few are restored, so that logs grow old.
func (p *player) restore() string {
	if p.r.IntN(8) > 0 {
		return p.reads()
	}
	index := p.index()
	term := p.termOf(index)
	e := p.l.Restore(index, term)
	p.same(say("Restore", index, term), say("Restore", e), say(e), say(p.m.restore(index, term)))
	return "Restore"
}

// beginAny makes a log of some kind: an empty one, one with a base, one near the last index that there is.
func (p *player) beginAny() {
	index := []int{0, 0, 1, 7, top - 3, top - 30}[p.r.IntN(6)]
	term := min(index, 1+p.r.IntN(3))
	var entries []api.Entry
	for at, u := index, max(1, term); at < top && len(entries) < 8 && p.r.IntN(4) > 0; at++ {
		u += p.r.IntN(2)
		entries = append(entries, command(u, at+1, string(p.data())))
	}
	p.begin(index, term, index+p.r.IntN(12)-2, entries)
}

func TestP8_1_Model(t *testing.T) {
	p := newPlayer(t, 1)
	for range 800 {
		p.beginAny()
		for range 120 {
			p.step()
		}
	}
	p.enough(50, "Has true", "Has false", "Newer true", "Newer false", "Entries 0", say("Entries", api.ErrGone), say("Entries", api.ErrNone),
		"Append 0", say("Append", api.ErrLimit), say("Append", api.ErrRange), say("Append", api.ErrKind), say("Append", api.ErrLong), say("Append", api.ErrForm),
		"Try true", "Try false", "Commit true", "Commit false", "Hand true", "Hand false", "Stable true", "Stable false", "Next true", "Next false",
		"Applied true", "Applied false", "Compact 0", say("Compact", api.ErrGone), say("Compact", api.ErrRange), "Restore 0", say("Restore", api.ErrRange))
}

// The same on logs that are full, or nearly.
func TestP8_4_FullModel(t *testing.T) {
	p := newPlayer(t, 4)
	for i := range 12 {
		n := api.MaxLog - i%4
		p.begin(3, 1, 3+n-i, many(n, 1, 4))
		for range 60 {
			switch p.r.IntN(6) {
			case 0:
				p.step()
			case 1, 2:
				p.append()
			case 3, 4:
				index := p.m.last() - p.r.IntN(6)
				term := p.termOf(index)
				entries := p.behind(index, term)
				have, ok := p.l.Try(index, term, 0, entries)
				p.same(say("Try", index, term, shown(entries)), say("Try", ok), say(have, ok), say(p.m.try(index, term, 0, entries)))
			}
		}
		p.same("then", "then", whole(t, p.l), p.m.whole())
	}
	p.enough(5, say("Append", api.ErrFull), "Append 0", "Try true", "Try false")
}
