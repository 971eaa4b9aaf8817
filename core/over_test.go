package core_test

import (
	"synod/api"
	"synod/core"
)

// overBytes writes all over bytes, and their spare room.
func overBytes(b []byte) {
	for i := range b[:cap(b)] {
		b[:cap(b)][i] = '!'
	}
	_ = append(b, "???"...)
}

// overEntries writes all over entries, their data, and the spare room of both.
func overEntries(l []api.Entry) {
	for i := range l[:cap(l)] {
		x := &l[:cap(l)][i]
		overBytes(x.Data)
		*x = api.Entry{Term: 77, Index: 77, Kind: 77, Data: []byte("!")}
	}
	_ = append(l, api.Entry{Term: 78})
}

func overMessages(l []api.Message) {
	for i := range l[:cap(l)] {
		x := &l[:cap(l)][i]
		overEntries(x.Entries)
		overBytes(x.Snap.Data)
		*x = api.Message{Kind: 77, From: 77, To: 77, Term: 77}
	}
	_ = append(l, api.Message{Kind: 78})
}

// overWork writes all over a work.
func overWork(w *core.Work) {
	overBytes(w.Snap.Data)
	overEntries(w.Entries)
	overMessages(w.Now)
	overMessages(w.After)
	overEntries(w.Apply)
	for i := range w.Reads[:cap(w.Reads)] {
		w.Reads[:cap(w.Reads)][i] = core.Read{ID: 77, Index: 77}
	}
	for i := range w.Dropped[:cap(w.Dropped)] {
		w.Dropped[:cap(w.Dropped)][i] = 77
	}
}
