package raftlog_test

import (
	"math"
	"math/rand/v2"
	"testing"

	"synod/api"
	"synod/raftlog"
)

// sound holds that a log is one: its entries go on one by one, their terms don't fall, its marks are in order.
func sound(t *testing.T, l *raftlog.Log) {
	t.Helper()
	base, term := l.Base()
	last, _ := l.Last()
	entries, _ := l.Entries(base+1, math.MaxInt)
	at := base
	for _, x := range entries {
		if x.Index != at+1 || x.Term < term || x.Term < 1 {
			t.Fatalf("%d of term %d stands behind %d of term %d", x.Index, x.Term, at, term)
		}
		at, term = x.Index, x.Term
	}
	m := l.Marks()
	for _, n := range []int{m.Handed, m.Stable, m.Committed, m.Applying, m.Applied} {
		if n < base || n > last {
			t.Fatalf("a mark is out of %d to %d: %v", base, last, m)
		}
	}
	if m.Stable > m.Handed || m.Applied > m.Applying || m.Applying > m.Committed || m.Applying > m.Stable || at != last || len(entries) > api.MaxLog {
		t.Fatalf("the marks are %v, the last is %d of %d", m, last, at)
	}
}

func TestP8_9_InOrder(t *testing.T) {
	p := newPlayer(t, 9)
	for range 500 {
		p.beginAny()
		committed := map[int]api.Entry{}
		was := p.l.Marks()
		for range 120 {
			p.step()
			sound(t, p.l)
			m := p.l.Marks()
			if m.Committed < was.Committed || m.Applying < was.Applying || m.Applied < was.Applied {
				t.Fatalf("%v; behind %v", m, was)
			}
			was = m
			stays(t, p.l, committed)
		}
	}
	p.enough(300, "Try true", "Try false", "Compact 0", "Next true", "Applied true", "Commit true")
}

// stays holds a log's committed entries against those that were told before, and adds them.
func stays(t *testing.T, l *raftlog.Log, committed map[int]api.Entry) {
	t.Helper()
	base, _ := l.Base()
	entries, _ := l.Entries(base+1, l.Marks().Committed-base)
	for _, x := range entries {
		if was, ok := committed[x.Index]; ok && !same(was, x) {
			t.Fatalf("%s stands where %s was committed", shown([]api.Entry{x}), shown([]api.Entry{was}))
		}
		committed[x.Index] = x
	}
	for index, was := range committed {
		if index > base && !l.Has(index, was.Term) {
			t.Fatalf("%s was committed, and is not there behind %d", shown([]api.Entry{was}), base)
		}
	}
}

// cluster is logs that take entries from one another; open is the term that a log may append in, told is what was appended.
type cluster struct {
	t     *testing.T
	r     *rand.Rand
	logs  []*raftlog.Log
	open  []int
	term  int
	told  int
	calls map[string]int
}

// append lays an entry of the log's own term at its end: of a new one, if a Try came between.
func (c *cluster) append(i int) {
	if c.open[i] == 0 || c.r.IntN(12) == 0 {
		c.term++
		c.open[i] = c.term
	}
	c.told++
	_, e := c.logs[i].Append(c.open[i], api.ECommand, []byte(say("d", c.told)))
	is(c.t, e, api.OK)
	c.calls["Append"]++
}

// try gives a log entries that another one has, with the index and term ahead of them.
func (c *cluster) try(i, from int) {
	c.open[i] = 0
	other := c.logs[from]
	base, _ := other.Base()
	index := base + c.r.IntN(other.Len()+1)
	if c.r.IntN(2) == 0 {
		index = min(index, other.Hint(c.logs[i].Last()))
	}
	term, _ := other.Term(index)
	entries, _ := other.Entries(index+1, c.r.IntN(6))
	commit := 0
	if c.r.IntN(30) == 0 {
		commit = index
	}
	_, before := c.logs[i].Last()
	_, ok := c.logs[i].Try(index, term, commit, entries)
	c.calls[say("Try", ok)]++
	if _, after := c.logs[i].Last(); after < before {
		c.calls["Try took back"]++
	}
}

// match holds that where both have an index with one term they have the same up to it.
func (c *cluster) match(a, b *raftlog.Log) {
	c.t.Helper()
	base, _ := a.Base()
	otherBase, _ := b.Base()
	last, _ := a.Last()
	for last > base && last > otherBase {
		term, _ := a.Term(last)
		if b.Has(last, term) {
			break
		}
		last--
	}
	from := max(base, otherBase)
	one, _ := a.Entries(from+1, last-from)
	other, _ := b.Entries(from+1, last-from)
	if shown(one) != shown(other) {
		c.t.Fatalf("up to %d:\n%s\n%s", last, shown(one), shown(other))
	}
	if last > from {
		c.calls["match"]++
	}
}

func TestP8_10_Matching(t *testing.T) {
	calls := map[string]int{}
	for seed := range uint64(400) {
		c := &cluster{t: t, r: rand.New(rand.NewPCG(seed, 10)), calls: calls, term: 4}
		begun := of(1, 1, 1, 2, 4)
		for range 2 + c.r.IntN(3) {
			l := made(t, 0, 0, 0, begun...)
			if c.r.IntN(3) == 0 {
				l = made(t, 3, 2, 0, begun[3:]...)
			}
			c.logs, c.open = append(c.logs, l), append(c.open, 0)
		}
		often := 1 + c.r.IntN(4)
		for range 80 {
			i := c.r.IntN(len(c.logs))
			if c.r.IntN(6) < often {
				c.append(i)
			} else {
				c.try(i, (i+1+c.r.IntN(len(c.logs)-1))%len(c.logs))
			}
			for other := range c.logs {
				c.match(c.logs[i], c.logs[other])
				c.match(c.logs[other], c.logs[i])
			}
		}
	}
	for _, kind := range []string{"Append", "Try true", "Try false", "Try took back", "match"} {
		if calls[kind] < 500 {
			t.Errorf("%s: %d times alone", kind, calls[kind])
		}
	}
}

// tellings is what Hand and Next told, as a writer and an applier keep it.
type tellings struct {
	t       *testing.T
	l       *raftlog.Log
	written map[int]api.Entry
	put     map[int]bool // where a Try has put another one: that index may be told again
	applied int
}

// hand takes what Hand tells: one behind the other, behind what was told last, and nothing again but where Try has put another one.
func (g *tellings) hand(entries []api.Entry, handed int) {
	g.t.Helper()
	for _, x := range entries {
		if x.Index != handed+1 {
			g.t.Fatalf("Hand tells %d behind %d", x.Index, handed)
		}
		handed = x.Index
		if _, told := g.written[x.Index]; told && !g.put[x.Index] {
			g.t.Fatalf("Hand tells %d again", x.Index)
		}
		g.written[x.Index] = x
		delete(g.put, x.Index)
	}
	if last, _ := g.l.Last(); handed != last {
		g.t.Fatalf("Hand tells up to %d of %d", handed, last)
	}
}

// holds that the writer has what the log has, as far as it was handed.
func (g *tellings) holds() {
	g.t.Helper()
	base, _ := g.l.Base()
	entries, _ := g.l.Entries(base+1, g.l.Marks().Handed-base)
	for _, x := range entries {
		if was := g.written[x.Index]; !same(was, x) {
			g.t.Fatalf("%s is handed; the writer has %s", shown([]api.Entry{x}), shown([]api.Entry{was}))
		}
	}
}

// next takes what Next tells: each one once, one behind the other, and as the writer has it.
func (g *tellings) next(entries []api.Entry) {
	g.t.Helper()
	for _, x := range entries {
		if was := g.written[x.Index]; x.Index != g.applied+1 || !same(was, x) {
			g.t.Fatalf("Next tells %s behind %d; the writer has %s", shown([]api.Entry{x}), g.applied, shown([]api.Entry{was}))
		}
		g.applied = x.Index
	}
}

// tried notes where a Try has put others: from the first index on that has not the entry that it had.
func (g *tellings) tried(before, after []api.Entry) {
	n := 0
	for n < len(before) && n < len(after) && same(before[n], after[n]) {
		n++
	}
	if n == len(before) {
		return
	}
	for index := range g.written {
		if index >= before[n].Index {
			g.put[index] = true
		}
	}
}

func TestP8_11_HandedOnce(t *testing.T) {
	p := newPlayer(t, 11)
	again := 0
	for range 500 {
		p.beginAny()
		l := p.l
		base, _ := l.Base()
		g := &tellings{t, l, map[int]api.Entry{}, map[int]bool{}, base}
		begun, _ := l.Entries(base+1, math.MaxInt)
		for _, x := range begun {
			g.written[x.Index] = x
		}
		for range 120 {
			base, _ := l.Base()
			before, _ := l.Entries(base+1, math.MaxInt)
			handed := l.Marks().Handed
			switch k := p.r.IntN(12); {
			case k < 3:
				l.Append(p.termOf(p.m.last())+p.r.IntN(2), api.ECommand, p.data())
			case k < 5:
				index := p.index()
				term := p.termOf(index)
				l.Try(index, term, p.index(), p.behind(index, term))
				after, _ := l.Entries(base+1, math.MaxInt)
				g.tried(before, after)
			case k < 7:
				list := l.Hand()
				for _, x := range list {
					if g.put[x.Index] {
						again++
					}
				}
				g.hand(list, handed)
				is(t, len(l.Hand()), 0)
			case k < 9:
				index := p.index()
				l.Stable(index, p.termOf(index))
			case k < 10:
				g.next(l.Next(p.r.IntN(5)))
				l.Applied(p.index())
			case k < 11:
				l.Commit(p.index())
			default:
				l.Compact(p.index())
			}
			p.follow()
			g.holds()
			is(t, l.Marks().Applying, g.applied)
		}
	}
	if again < 300 {
		t.Errorf("told again: %d times alone", again)
	}
}

// follow lets the model be as the log is, so that the next numbers are picked around it.
func (p *player) follow() {
	base, term := p.l.Base()
	entries, _ := p.l.Entries(base+1, math.MaxInt)
	m, k := newModel(base, term, 0, entries), p.l.Marks()
	m.handed, m.stable, m.committed, m.applying, m.applied = k.Handed, k.Stable, k.Committed, k.Applying, k.Applied
	p.m = m
	p.log = append(p.log, "")
}
