package shell

import (
	"testing"

	"synod/api"
)

// No world has a history that isn't linear: what would be said of one is asked here alone.
func TestP18_4_Judgement(t *testing.T) {
	put := api.Op{Kind: api.OpPut, Key: "a", Value: "x", Call: 1, Back: 2, Reply: api.Reply{Code: api.RDone}}
	get := api.Op{Kind: api.OpGet, Key: "a", Call: 3, Back: 4, Reply: api.Reply{Code: api.RDone, Value: "x"}}
	none := get
	none.Reply = api.Reply{Code: api.RNone}
	for _, x := range []struct {
		history []api.Op
		want    string
	}{
		{nil, "yes"}, {[]api.Op{put}, "yes"}, {[]api.Op{put, get}, "yes"}, {[]api.Op{put, none}, "no"}, {[]api.Op{get}, "no"},
		{[]api.Op{put, none, {}}, "err 6"}, {[]api.Op{{Kind: api.OpPut}}, "err 4"}, {make([]api.Op, api.MaxHistory+1), "err 23"},
	} {
		if have := judgement(x.history); have != x.want {
			t.Errorf("%v: have %s, want %s", x.history, have, x.want)
		}
	}
}
