package wal

import (
	"synod/api"
	"synod/codec"
	"synod/wire"
)

// The kinds of records.
const (
	headKind = iota
	stateKind
	entryKind
	markKind
)

// mostText is how many bytes an entry's text may have in a record.
const mostText = 2 * api.MaxData

// record is a record of any kind.
type record struct {
	kind    int
	segment int       // where it stands; a head has it in its text, too
	state   api.State // of a head, of a state
	index   int       // of a mark; of a head: the base
	term    int       // that one's
	entry   api.Entry
}

// textOf is the payload of a record's frame. What stands in it has been checked: there is no error to be told.
func textOf(x record) []byte {
	w := wire.NewWriter()
	w.Int(x.kind)
	switch x.kind {
	case headKind:
		w.Int(x.segment)
		putState(w, x.state)
		w.Int(x.index)
		w.Int(x.term)
	case stateKind:
		putState(w, x.state)
	case entryKind:
		b, _ := codec.Entries{}.Put(x.entry)
		w.Bytes(b, mostText)
	case markKind:
		w.Int(x.index)
		w.Int(x.term)
	}
	b, _ := w.Done()
	return b
}

// recordOf is the record in a segment that has this text; false: there is none.
func recordOf(payload []byte, segment int) (record, bool) {
	r := wire.NewReader(payload)
	x := record{kind: r.Int(), segment: segment}
	ok := true
	switch x.kind {
	case headKind:
		ok = r.Int() == segment
		x.state = getState(r)
		x.index, x.term = r.Int(), r.Int()
	case stateKind:
		x.state = getState(r)
	case entryKind:
		x.entry, ok = getEntry(r)
	case markKind:
		x.index, x.term = r.Int(), r.Int()
		ok = x.index > 0 && x.term > 0
	default:
		ok = false
	}
	return x, ok && r.Done() == api.OK && codec.States{}.Check(x.state) == api.OK
}

func putState(w *wire.Writer, s api.State) {
	w.Int(s.Term)
	w.Int(s.Vote)
	w.Int(s.Commit)
}

func getState(r *wire.Reader) api.State {
	return api.State{Term: r.Int(), Vote: r.Int(), Commit: r.Int()}
}

func getEntry(r *wire.Reader) (api.Entry, bool) {
	e, err := codec.Entries{}.Get(r.Bytes(mostText))
	return e, err == api.OK
}

// own is an entry in memory of its own, so that neither side sees what the other one writes.
func own(e api.Entry) api.Entry {
	e.Data = append([]byte(nil), e.Data...)
	return e
}
