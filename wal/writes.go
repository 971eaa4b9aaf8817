package wal

import (
	"synod/api"
	"synod/codec"
	"synod/frame"
)

// check tells the first error of a batch.
func (w *Wal) check(b Batch) api.Errno {
	if b.HasState {
		if err := (codec.States{}).Check(b.State); err != api.OK {
			return err
		}
	}
	if !isMark(b.Index, b.Term) {
		return api.ErrRange
	}
	for _, e := range b.Entries {
		if err := (codec.Entries{}).Check(e); err != api.OK {
			return err
		}
	}
	return w.checkGaps(b)
}

// isMark tells whether a batch may have this mark, or, with both numbers 0, none.
func isMark(index, term int) bool {
	inRange := index >= 0 && index <= api.MaxIndex && term >= 0 && term <= api.MaxIndex
	return inRange && (index == 0) == (term == 0)
}

// checkGaps goes through the entries as the mark and those ahead of them leave the view.
func (w *Wal) checkGaps(b Batch) api.Errno {
	r, ok := w.log.reach(), true
	if w.isNews(b) {
		r = reach{b.Index, b.Index}
	}
	for _, e := range b.Entries {
		if r, ok = r.with(e.Index); !ok {
			return api.ErrGap
		}
	}
	return api.OK
}

// isNews tells whether a batch has a mark that the view hasn't.
func (w *Wal) isNews(b Batch) bool { return b.Index > 0 && !w.log.has(b.Index, b.Term) }

// put writes a batch that has no error; the view changes only behind the disk's last word.
func (w *Wal) put(b Batch) {
	if s := w.lastSegment(); s.bytes >= w.full {
		w.sync()
		w.begin(s.number + 1)
	}
	records := w.records(b)
	if len(records) == 0 {
		return
	}
	w.append(records)
	for _, x := range records {
		w.log.take(x)
	}
}

// records are a batch's. A new Commit goes last: a torn write never has it ahead of the entries.
func (w *Wal) records(b Batch) []record {
	var list []record
	at, was, next := w.lastSegment().number, w.log.view.State, b.State
	if b.HasState && (next.Term != was.Term || next.Vote != was.Vote) {
		early := api.State{Term: next.Term, Vote: next.Vote, Commit: was.Commit}
		list = append(list, record{kind: stateKind, segment: at, state: early})
	}
	if w.isNews(b) {
		list = append(list, record{kind: markKind, segment: at, index: b.Index, term: b.Term})
	}
	for _, e := range b.Entries {
		list = append(list, record{kind: entryKind, segment: at, entry: own(e)})
	}
	if b.HasState && next.Commit != was.Commit {
		list = append(list, record{kind: stateKind, segment: at, state: next})
	}
	return list
}

// append writes records at the end of the last segment, in one piece.
func (w *Wal) append(records []record) {
	var payloads [][]byte
	for _, x := range records {
		payloads = append(payloads, textOf(x))
	}
	b, err := frame.Join(payloads)
	must(err)
	s := w.lastSegment()
	must(w.disk.Append(s.name(), b))
	s.bytes += len(b)
}

// begin makes a segment behind all others.
func (w *Wal) begin(number int) {
	name, err := Name(number)
	must(err)
	must(w.disk.Create(name))
	w.segments = append(w.segments, segment{number: number})
	w.putHead()
}

// putHead begins the last segment's file.
func (w *Wal) putHead() {
	w.append([]record{w.head(w.lastSegment().number)})
	w.sync()
}

// head is the record that a segment begins with, as the view is now.
func (w *Wal) head(number int) record {
	index, term := w.log.last()
	return record{kind: headKind, segment: number, state: w.log.view.State, index: index, term: term}
}

func (w *Wal) sync() { must(w.disk.Sync(w.lastSegment().name())) }

func (w *Wal) lastSegment() *segment { return &w.segments[len(w.segments)-1] }

// compact removes what may go. The view changes only behind the disk's last word.
func (w *Wal) compact(index int) int {
	w.sync()
	removed, gone := w.free(index)
	for _, s := range w.segments[:removed] {
		must(w.disk.Remove(s.name()))
	}
	w.segments = append([]segment(nil), w.segments[removed:]...)
	w.log.forget(gone)
	return removed
}

// free tells how many segments, from the first one on, have no entry of the view that is above index, and how many of
// its entries stand in them. The last one is never free.
func (w *Wal) free(index int) (int, int) {
	gone := 0
	others := w.segments[:len(w.segments)-1]
	for i, s := range others {
		n := w.log.upTo(s.number)
		if n > 0 && w.log.view.Entries[n-1].Index > index {
			return i, gone
		}
		gone = n
	}
	return len(others), gone
}
