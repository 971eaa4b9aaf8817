package codec

import (
	"synod/api"
	"synod/wire"
)

// Commands is the codec of commands.
type Commands struct{}

// Check tells whether it may be.
func (Commands) Check(x api.Command) api.Errno {
	switch {
	case x.Op != api.OpPut && x.Op != api.OpDelete && x.Op != api.OpSwap:
		return api.ErrKind
	case !within(x.Client, 1, api.MaxIndex), !within(x.Seq, 1, api.MaxIndex):
		return api.ErrRange
	case len(x.Key) > api.MaxKey, len(x.Value) > api.MaxValue, len(x.Old) > api.MaxValue:
		return api.ErrLong
	case x.Key == "", x.Value != "" && x.Op == api.OpDelete, x.Old != "" && x.Op != api.OpSwap:
		return api.ErrForm
	}
	return api.OK
}

// Put is its text.
func (c Commands) Put(x api.Command) ([]byte, api.Errno) {
	if err := c.Check(x); err != api.OK {
		return nil, err
	}
	w := wire.NewWriter()
	w.Int(x.Op)
	w.Int(x.Client)
	w.Int(x.Seq)
	w.Text(x.Key, api.MaxKey)
	w.Text(x.Value, api.MaxValue)
	w.Text(x.Old, api.MaxValue)
	return w.Done()
}

// Get is what has this text.
func (c Commands) Get(b []byte) (api.Command, api.Errno) {
	r := wire.NewReader(b)
	return whole(r, c, api.Command{Op: r.Int(), Client: r.Int(), Seq: r.Int(),
		Key: r.Text(api.MaxKey), Value: r.Text(api.MaxValue), Old: r.Text(api.MaxValue)})
}
