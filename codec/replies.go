package codec

import (
	"synod/api"
	"synod/wire"
)

// Replies is the codec of replies.
type Replies struct{}

// Check tells whether it may be.
func (Replies) Check(x api.Reply) api.Errno {
	switch {
	case !within(x.Code, api.RDone, api.RDown):
		return api.ErrKind
	case len(x.Value) > api.MaxValue:
		return api.ErrLong
	}
	return api.OK
}

// Put is its text.
func (c Replies) Put(x api.Reply) ([]byte, api.Errno) {
	if err := c.Check(x); err != api.OK {
		return nil, err
	}
	w := wire.NewWriter()
	w.Int(x.Code)
	w.Text(x.Value, api.MaxValue)
	return w.Done()
}

// Get is what has this text.
func (c Replies) Get(b []byte) (api.Reply, api.Errno) {
	r := wire.NewReader(b)
	return whole(r, c, api.Reply{Code: r.Int(), Value: r.Text(api.MaxValue)})
}
