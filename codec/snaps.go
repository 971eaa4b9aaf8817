package codec

import (
	"synod/api"
	"synod/wire"
)

// Snaps is the codec of snapshots.
type Snaps struct{}

// Check tells whether it may be.
func (Snaps) Check(x api.Snap) api.Errno {
	switch {
	case isNone(x):
		return api.OK
	case !within(x.Index, 1, api.MaxIndex), !within(x.Term, 1, api.MaxIndex):
		return api.ErrRange
	case len(x.Data) > api.MaxSnap:
		return api.ErrLong
	}
	return api.OK
}

// Put is its text.
func (c Snaps) Put(x api.Snap) ([]byte, api.Errno) {
	if err := c.Check(x); err != api.OK {
		return nil, err
	}
	w := wire.NewWriter()
	w.Int(x.Index)
	w.Int(x.Term)
	w.Bytes(x.Data, api.MaxSnap)
	return w.Done()
}

// Get is what has this text.
func (c Snaps) Get(b []byte) (api.Snap, api.Errno) {
	r := wire.NewReader(b)
	return whole(r, c, api.Snap{Index: r.Int(), Term: r.Int(), Data: r.Bytes(api.MaxSnap)})
}

func isNone(x api.Snap) bool { return x.Index == 0 && x.Term == 0 && len(x.Data) == 0 }
