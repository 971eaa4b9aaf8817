package codec

import (
	"synod/api"
	"synod/wire"
)

// States is the codec of states.
type States struct{}

// Check tells whether it may be.
func (States) Check(x api.State) api.Errno {
	switch {
	case !within(x.Term, 0, api.MaxIndex), !within(x.Commit, 0, api.MaxIndex), !within(x.Vote, 0, api.MaxNodes):
		return api.ErrRange
	case x.Vote != 0 && x.Term == 0:
		return api.ErrForm
	}
	return api.OK
}

// Put is its text.
func (c States) Put(x api.State) ([]byte, api.Errno) {
	if err := c.Check(x); err != api.OK {
		return nil, err
	}
	w := wire.NewWriter()
	w.Int(x.Term)
	w.Int(x.Vote)
	w.Int(x.Commit)
	return w.Done()
}

// Get is what has this text.
func (c States) Get(b []byte) (api.State, api.Errno) {
	r := wire.NewReader(b)
	return whole(r, c, api.State{Term: r.Int(), Vote: r.Int(), Commit: r.Int()})
}
