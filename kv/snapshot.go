package kv

import (
	"synod/api"
	"synod/wire"
)

// Snapshot is all of it as bytes.
func (s *Store) Snapshot() []byte {
	w := wire.NewWriter()
	w.Int(s.Len())
	for key, value := range s.Each() {
		w.Text(key, api.MaxKey)
		w.Text(value, api.MaxValue)
	}
	sessions := s.Sessions()
	w.Int(len(sessions))
	for _, x := range sessions {
		w.Int(x.Client)
		w.Int(x.Seq)
		w.Int(x.Reply.Code)
		w.Text(x.Reply.Value, api.MaxValue)
	}
	// There is no error: neither Do nor Restore lets anything in that a writer refuses.
	b, _ := w.Done()
	return b
}

// Restore is the store of a snapshot.
func Restore(b []byte) (*Store, api.Errno) {
	l := &loader{r: wire.NewReader(b)}
	s := New()
	l.pairs(s)
	l.sessions(s)
	if err := l.done(); err != api.OK {
		return nil, err
	}
	return s, api.OK
}

// loader reads a snapshot. It keeps its first error: the reader's, or one of what was read; what it reads behind it
// counts for nothing.
type loader struct {
	r   *wire.Reader
	err api.Errno
}

func (l *loader) pairs(s *Store) {
	ahead := ""
	for range l.count(api.MaxPairs) {
		key := l.text(api.MaxKey)
		// Nothing is below the empty text: an empty key is refused here too.
		l.must(key > ahead, api.ErrForm)
		ahead = key
		s.set(key, l.text(api.MaxValue))
	}
}

func (l *loader) sessions(s *Store) {
	ahead := 0
	for range l.count(api.MaxSession) {
		client := l.number()
		l.must(client > ahead, api.ErrForm)
		ahead = client
		s.sessions[client] = Session{Client: client, Seq: l.seq(), Reply: l.reply()}
	}
}

func (l *loader) seq() int {
	n := l.number()
	l.must(n > 0, api.ErrForm)
	return n
}

func (l *loader) reply() api.Reply {
	code := l.number()
	l.must(isKept(code), api.ErrForm)
	value := l.text(api.MaxValue)
	l.must(value == "" || code == api.ROther, api.ErrForm)
	return api.Reply{Code: code, Value: value}
}

// isKept tells whether a session may have a reply of this code.
func isKept(code int) bool {
	return code == api.RDone || code == api.RNone || code == api.ROther || code == api.RFull
}

// count reads how many things follow. Beside an error it is 0, so that what goes by it ends.
func (l *loader) count(most int) int {
	n := l.number()
	l.must(n <= most, api.ErrMany)
	if l.err != api.OK {
		return 0
	}
	return n
}

func (l *loader) number() int {
	at := l.r.At()
	n := l.r.Int()
	l.look(at)
	return n
}

func (l *loader) text(most int) string {
	at := l.r.At()
	s := l.r.Text(most)
	l.look(at)
	return s
}

// look takes over the reader's error of what it was to read at a place. Done alone doesn't tell it from bytes that are
// left; but a reader stays at its error, and whatever it reads has a byte at least.
func (l *loader) look(at int) {
	if l.r.At() == at {
		l.must(false, l.r.Done())
	}
}

// must keeps an error, if what has to hold doesn't, and there is none ahead of it.
func (l *loader) must(holds bool, err api.Errno) {
	if !holds && l.err == api.OK {
		l.err = err
	}
}

// done is the first error, or that bytes are left.
func (l *loader) done() api.Errno {
	if l.err != api.OK {
		return l.err
	}
	return l.r.Done()
}
