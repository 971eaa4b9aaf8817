package codec

import (
	"synod/api"
	"synod/wire"
)

// Entries is the codec of entries.
type Entries struct{}

// Check tells whether it may be.
func (Entries) Check(x api.Entry) api.Errno {
	switch {
	case !within(x.Term, 1, api.MaxIndex), !within(x.Index, 1, api.MaxIndex):
		return api.ErrRange
	case x.Kind != api.EEmpty && x.Kind != api.ECommand:
		return api.ErrKind
	case len(x.Data) > api.MaxData:
		return api.ErrLong
	case x.Kind == api.EEmpty && len(x.Data) > 0:
		return api.ErrForm
	}
	return api.OK
}

// Put is its text.
func (c Entries) Put(x api.Entry) ([]byte, api.Errno) {
	if err := c.Check(x); err != api.OK {
		return nil, err
	}
	w := wire.NewWriter()
	w.Int(x.Term)
	w.Int(x.Index)
	w.Int(x.Kind)
	w.Bytes(x.Data, api.MaxData)
	return w.Done()
}

// Get is what has this text.
func (c Entries) Get(b []byte) (api.Entry, api.Errno) {
	r := wire.NewReader(b)
	return whole(r, c, api.Entry{Term: r.Int(), Index: r.Int(), Kind: r.Int(), Data: r.Bytes(api.MaxData)})
}
