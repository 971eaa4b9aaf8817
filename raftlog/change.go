package raftlog

import (
	"slices"

	"synod/api"
	"synod/codec"
)

// Append lays an entry at the end.
func (l *Log) Append(term, kind int, data []byte) (int, api.Errno) {
	last := l.last()
	x := api.Entry{Term: term, Index: last.index + 1, Kind: kind, Data: data}
	switch {
	case last.index == api.MaxIndex:
		return 0, api.ErrLimit
	case len(l.entries) >= api.MaxLog:
		return 0, api.ErrFull
	case term < last.term:
		return 0, api.ErrRange
	}
	// Of a term below 1 or above MaxIndex codec has the same error, ahead of its others.
	if err := (codec.Entries{}).Check(x); err != api.OK {
		return 0, err
	}
	l.entries = append(l.entries, own(x))
	return x.Index, api.OK
}

// Try lays a leader's entries behind an index.
func (l *Log) Try(index, term, commit int, entries []api.Entry) (int, bool) {
	// Entries that may not stand there are refused too, so that the log stays one whatever it is given.
	if !l.Has(index, term) || checkEntries(place{index, term}, entries) != api.OK {
		return 0, false
	}
	news := entries[l.known(entries):]
	if len(news) > 0 && !l.put(news) {
		return 0, false
	}
	end := index + len(entries)
	l.Commit(min(commit, end))
	return end, true
}

// known tells how many of these, from the first on, are there with their terms.
func (l *Log) known(entries []api.Entry) int {
	n := 0
search:
	for ; n < len(entries); n++ {
		switch term, err := l.Term(entries[n].Index); {
		case err != api.OK, term != entries[n].Term:
			break search
		}
	}
	return n
}

// put lays entries in the place of all from the first one's index on; false: one of those is committed, or there is no room.
func (l *Log) put(entries []api.Entry) bool {
	ahead := entries[0].Index - 1
	kept := ahead - l.base.index
	if ahead < l.marks.Committed || kept+len(entries) > api.MaxLog {
		return false
	}
	// Delete writes zero entries over those that go: their data is kept no longer.
	l.entries = append(slices.Delete(l.entries, kept, len(l.entries)), copies(entries)...)
	to := l.marks
	to.Handed = min(to.Handed, ahead)
	to.Stable = min(to.Stable, ahead)
	l.move(to)
	return true
}

// Hint is where the logs may meet.
func (l *Log) Hint(index, term int) int {
	at := min(index, l.last().index)
search:
	for {
		switch t, err := l.Term(at); {
		case err != api.OK:
			at = l.base.index
			break search
		case t <= term:
			break search
		}
		at--
	}
	return at
}

// Compact lets entries go.
func (l *Log) Compact(index int) api.Errno {
	switch {
	case index < l.base.index:
		return api.ErrGone
	case index > l.marks.Applied:
		return api.ErrRange
	}
	term, _ := l.Term(index)
	// A list of its own, so that those that go are kept no longer.
	l.entries = append([]api.Entry(nil), l.entries[index-l.base.index:]...)
	l.base = place{index, term}
	return api.OK
}

// Restore begins anew behind a snapshot.
func (l *Log) Restore(index, term int) api.Errno {
	base := place{index, term}
	if !isPlace(base) || index <= l.marks.Committed {
		return api.ErrRange
	}
	l.base, l.entries = base, nil
	l.move(Marks{Handed: index, Stable: index, Committed: index, Applying: index, Applied: index})
	return api.OK
}
