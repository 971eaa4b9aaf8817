package codec

import (
	"synod/api"
	"synod/wire"
)

// The bytes of what stands within a message: room for its data, and for the numbers beside them.
const (
	entryBytes = 2 * api.MaxData
	snapBytes  = 2 * api.MaxSnap
)

// Messages is the codec of messages.
type Messages struct{}

// Put is its text.
func (c Messages) Put(x api.Message) ([]byte, api.Errno) {
	if err := c.Check(x); err != api.OK {
		return nil, err
	}
	w := wire.NewWriter()
	w.Int(x.Kind)
	w.Int(x.From)
	w.Int(x.To)
	w.Int(x.Term)
	if err := putUsed(w, x); err != api.OK {
		return nil, err
	}
	return w.Done()
}

// Get is what has this text.
func (c Messages) Get(b []byte) (api.Message, api.Errno) {
	r := wire.NewReader(b)
	kind, err := getNumber(r)
	if err == api.OK && !isKind(kind) {
		err = api.ErrKind
	}
	if err != api.OK {
		return api.Message{}, err
	}
	x := api.Message{Kind: kind, From: r.Int(), To: r.Int(), Term: r.Int()}
	if err := getUsed(r, &x); err != api.OK {
		return api.Message{}, err
	}
	return whole(r, c, x)
}

// putUsed puts what the message's kind uses.
func putUsed(w *wire.Writer, x api.Message) api.Errno {
	switch x.Kind {
	case api.MVote:
		w.Int(x.Index)
		w.Int(x.LogTerm)
	case api.MVoteAns:
		w.Bool(x.Reject)
	case api.MApp:
		w.Int(x.Index)
		w.Int(x.LogTerm)
		w.Int(x.Commit)
		return putAll(w, Entries{}, x.Entries, entryBytes)
	case api.MAppAns:
		w.Int(x.Index)
		w.Bool(x.Reject)
		w.Int(x.Hint)
	case api.MBeat:
		w.Int(x.Commit)
		w.Int(x.Ctx)
	case api.MBeatAns:
		w.Int(x.Ctx)
	case api.MSnap:
		return putOne(w, Snaps{}, x.Snap, snapBytes)
	}
	return api.OK
}

// getUsed reads what the message's kind uses. It answers the errors that have to be told on the spot; the reader keeps
// those of plain numbers till it is done.
func getUsed(r *wire.Reader, x *api.Message) api.Errno {
	err := api.OK
	switch x.Kind {
	case api.MVote:
		x.Index, x.LogTerm = r.Int(), r.Int()
	case api.MVoteAns:
		x.Reject = r.Bool()
	case api.MApp:
		x.Index, x.LogTerm, x.Commit = r.Int(), r.Int(), r.Int()
		x.Entries, err = getAll(r, Entries{}, api.MaxEntries, entryBytes)
	case api.MAppAns:
		x.Index, x.Reject, x.Hint = r.Int(), r.Bool(), r.Int()
	case api.MBeat:
		x.Commit, x.Ctx = r.Int(), r.Int()
	case api.MBeatAns:
		x.Ctx = r.Int()
	case api.MSnap:
		x.Snap, err = getOne(r, Snaps{}, snapBytes)
	}
	return err
}
