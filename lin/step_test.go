package lin_test

import (
	"testing"

	"synod/api"
	"synod/kv"
	"synod/lin"
)

// steps holds what an operation does to a key.
func steps(t *testing.T, there bool, value string, x api.Op, is bool, then string, r api.Reply) {
	t.Helper()
	have, now, told := lin.Step(there, value, x)
	if have != is || now != then || told != r {
		t.Errorf("%v %q, %s: have %v %q %v; want %v %q %v", there, value, show(x), have, now, told, is, then, r)
	}
}

func TestP16_3_Get(t *testing.T) {
	for _, v := range []string{"", "v", "\x00", "long and longer"} {
		steps(t, true, v, api.Op{Kind: api.OpGet}, true, v, reply(api.RDone, v))
		steps(t, false, v, api.Op{Kind: api.OpGet}, false, "", reply(api.RNone))
		x := api.Op{Kind: api.OpGet, Key: "k", Value: "n", Old: v, Call: 3, Back: 4, Reply: reply(api.ROther, "o")}
		steps(t, true, v, x, true, v, reply(api.RDone, v))
		steps(t, false, v, x, false, "", reply(api.RNone))
	}
}

func TestP16_3_Put(t *testing.T) {
	for _, v := range []string{"", "v", "n"} {
		for _, n := range []string{"", "n"} {
			x := api.Op{Kind: api.OpPut, Value: n, Old: "o"}
			steps(t, true, v, x, true, n, reply(api.RDone))
			steps(t, false, v, x, true, n, reply(api.RDone))
		}
	}
}

func TestP16_3_Delete(t *testing.T) {
	for _, v := range []string{"", "v", "n"} {
		x := api.Op{Kind: api.OpDelete, Value: "n", Old: "o"}
		steps(t, true, v, x, false, "", reply(api.RDone))
		steps(t, false, v, x, false, "", reply(api.RNone))
	}
}

func TestP16_3_Swap(t *testing.T) {
	for _, v := range []string{"", "v", "w", "vv"} {
		for _, old := range []string{"", "v", "w", "V", "v\x00"} {
			for _, n := range []string{"", "n", "v"} {
				x := api.Op{Kind: api.OpSwap, Value: n, Old: old}
				steps(t, false, v, x, false, "", reply(api.RNone))
				if v == old {
					steps(t, true, v, x, true, n, reply(api.RDone))
				} else {
					steps(t, true, v, x, true, v, reply(api.ROther, v))
				}
			}
		}
	}
}

func TestP16_3_NoKind(t *testing.T) {
	for _, kind := range append(far(), 0, 5, 9, 1<<8+2, 1<<32+2) {
		x := api.Op{Kind: kind, Value: "n", Old: "v", Reply: reply(api.RDone, "x")}
		steps(t, true, "v", x, true, "v", api.Reply{})
		steps(t, true, "", x, true, "", api.Reply{})
		steps(t, false, "v", x, false, "", api.Reply{})
		steps(t, false, "", x, false, "", api.Reply{})
	}
}

// Neither when it was called, nor what it was told, nor by whom, changes what an operation does.
func TestP16_3_OnNothingElse(t *testing.T) {
	for kind := range 7 {
		for _, there := range []bool{false, true} {
			for _, old := range []string{"v", "w"} {
				x := api.Op{Kind: kind, Value: "n", Old: old}
				is, v, r := lin.Step(there, "v", x)
				for _, n := range append(far(), 0, 1, 2, 3) {
					x.Client, x.Seq, x.Call, x.Back, x.Key = n, n, n, n, "key"
					x.Reply = reply(n, "told")
					steps(t, there, "v", x, is, v, r)
				}
			}
		}
	}
}

// A key does what a store's key does.
func TestP16_3_AsTheStore(t *testing.T) {
	texts := []string{"", "v", "w"}
	for _, v := range append(texts, "not there") {
		for _, n := range texts {
			asTheStore(t, v, api.Command{Op: api.OpPut, Value: n})
			for _, old := range texts {
				asTheStore(t, v, api.Command{Op: api.OpSwap, Value: n, Old: old})
			}
		}
		asTheStore(t, v, api.Command{Op: api.OpDelete})
	}
}

// asTheStore holds an operation against the store's command, of a key that has a value, or is not there.
func asTheStore(t *testing.T, value string, c api.Command) {
	t.Helper()
	s := kv.New()
	there := value != "not there"
	if there {
		s.Do(api.Command{Op: api.OpPut, Client: 1, Seq: 1, Key: "k", Value: value})
	}
	_, _, got := lin.Step(there, value, api.Op{Kind: api.OpGet, Key: "k"})
	is(t, got, s.Get("k"))
	c.Client, c.Seq, c.Key = 2, 1, "k"
	r, e := s.Do(c)
	is(t, e, api.OK)
	then := s.Get("k")
	steps(t, there, value, api.Op{Kind: c.Op, Key: "k", Value: c.Value, Old: c.Old}, then.Code == api.RDone, then.Value, r)
}
