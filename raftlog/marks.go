package raftlog

import "synod/api"

// Marks tell how far a log is.
type Marks struct{ Handed, Stable, Committed, Applying, Applied int }

// Marks tell how far it is.
func (l *Log) Marks() Marks { return l.marks }

// move takes marks, and tells whether they are others.
func (l *Log) move(to Marks) bool {
	moved := to != l.marks
	l.marks = to
	return moved
}

// Commit tells that all up to an index is committed.
func (l *Log) Commit(index int) bool {
	to := l.marks
	to.Committed = max(to.Committed, min(index, l.last().index))
	return l.move(to)
}

// Hand hands entries to the writer.
func (l *Log) Hand() []api.Entry {
	to := l.marks
	to.Handed = l.last().index
	list := l.span(l.marks.Handed, to.Handed, len(l.entries))
	l.move(to)
	return list
}

// Stable tells that all up to an index is durable.
func (l *Log) Stable(index, term int) bool {
	to := l.marks
	// The term is asked for because Try may have put another one there since it was handed.
	if index > to.Stable && index <= to.Handed && l.Has(index, term) {
		to.Stable = index
	}
	return l.move(to)
}

// Next hands entries to the applier.
func (l *Log) Next(most int) []api.Entry {
	to := l.marks
	list := l.span(to.Applying, min(to.Committed, to.Stable), most)
	to.Applying += len(list)
	l.move(to)
	return list
}

// Applied tells that all up to an index was applied.
func (l *Log) Applied(index int) bool {
	to := l.marks
	if index > to.Applied && index <= to.Applying {
		to.Applied = index
	}
	return l.move(to)
}
