package wal

import (
	"slices"

	"synod/api"
)

// ledger is a view, and for each of its entries the number of the segment in which it stands. The numbers never fall:
// an entry takes the place of all behind it, and stands in the last segment.
type ledger struct {
	view    View
	stands  []int
	changes map[int]func(record) bool
}

func newLedger() *ledger {
	l := &ledger{}
	l.changes = changesOf(l)
	return l
}

// changesOf tells by a record's kind what it does to a ledger's view; false: it may not stand there.
func changesOf(l *ledger) map[int]func(record) bool {
	return map[int]func(record) bool{
		headKind: func(record) bool { return true },
		stateKind: func(x record) bool {
			l.view.State = x.state
			return true
		},
		entryKind: func(x record) bool { return l.enter(x.entry, x.segment) },
		markKind: func(x record) bool {
			if !l.has(x.index, x.term) {
				l.anew(x.index, x.term)
			}
			return true
		},
	}
}

// take lets a record change the view; false: it may not stand there.
func (l *ledger) take(x record) bool { return l.changes[x.kind](x) }

// last is the last index and its term.
func (l *ledger) last() (int, int) {
	if n := len(l.view.Entries); n > 0 {
		return l.view.Entries[n-1].Index, l.view.Entries[n-1].Term
	}
	return l.view.Base, l.view.BaseTerm
}

// has tells whether the view has a mark: as an entry, or as its base.
func (l *ledger) has(index, term int) bool {
	last, _ := l.last()
	switch {
	case index == l.view.Base:
		return term == l.view.BaseTerm
	case index < l.view.Base || index > last:
		return false
	}
	return term == l.view.Entries[index-l.view.Base-1].Term
}

// enter takes an entry that stands in a segment; false: it is a gap.
func (l *ledger) enter(e api.Entry, segment int) bool {
	r, ok := l.reach().with(e.Index)
	if !ok {
		return false
	}
	if r.base != l.view.Base {
		l.anew(r.base, 0)
	}
	l.keep(e.Index - r.base - 1)
	l.view.Entries = append(l.view.Entries, e)
	l.stands = append(l.stands, segment)
	return true
}

// anew lets all entries go, and begins behind another base.
func (l *ledger) anew(base, term int) {
	l.keep(0)
	l.view.Base, l.view.BaseTerm = base, term
}

// keep lets all entries but the first n go.
func (l *ledger) keep(n int) {
	l.view.Entries = slices.Delete(l.view.Entries, n, len(l.view.Entries))
	l.stands = l.stands[:n]
}

// forget lets the first n entries go; the last of them is the base then.
func (l *ledger) forget(n int) {
	if n == 0 {
		return
	}
	last := l.view.Entries[n-1]
	l.view.Base, l.view.BaseTerm = last.Index, last.Term
	l.view.Entries = slices.Delete(l.view.Entries, 0, n)
	l.stands = slices.Delete(l.stands, 0, n)
}

// upTo tells how many entries stand in a segment, or in one ahead of it.
func (l *ledger) upTo(segment int) int {
	n, _ := slices.BinarySearch(l.stands, segment+1)
	return n
}

// reach is where a view's entries begin and end: above base, up to last. It is enough to know a gap by.
type reach struct{ base, last int }

func (l *ledger) reach() reach {
	last, _ := l.last()
	return reach{l.view.Base, last}
}

// with is the reach behind an entry of that index; false: the entry is a gap.
func (r reach) with(index int) (reach, bool) {
	switch {
	case index < 1 || index > r.last+1:
		return r, false
	case index > r.base:
		return reach{r.base, index}, true
	}
	return reach{index - 1, index}, true
}
