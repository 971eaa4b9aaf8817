package lin_test

import (
	"fmt"
	"math"
	"slices"
	"testing"

	"synod/api"
	"synod/lin"
)

// refused holds that each call that judges answers an error, and nothing beside.
func refused(t *testing.T, h []api.Op, want api.Errno) {
	t.Helper()
	if e := lin.Valid(h); e != want {
		t.Errorf("have %d; want %d", e, want)
	}
	if ok, e := lin.Check(h); ok || e != want {
		t.Errorf("Check: %v, %d; want %d", ok, e, want)
	}
	for _, key := range []string{"a", "b", ""} {
		if order, ok, e := lin.Explain(h, key); len(order) != 0 || ok || e != want {
			t.Errorf("Explain: %v, %v, %d; want %d", order, ok, e, want)
		}
	}
}

// taken holds that a history may be judged.
func taken(t *testing.T, h []api.Op) {
	t.Helper()
	if e := lin.Valid(h); e != api.OK {
		t.Errorf("Valid: %d", e)
	}
	if _, e := lin.Check(h); e != api.OK {
		t.Errorf("Check: %d", e)
	}
	if _, _, e := lin.Explain(h, "a"); e != api.OK {
		t.Errorf("Explain: %d", e)
	}
}

func TestP16_1_Length(t *testing.T) {
	taken(t, nil)
	taken(t, list())
	h := make([]api.Op, api.MaxHistory+1)
	for i := range h {
		h[i] = of(fmt.Sprint(i), put("x", 1, 2, reply(api.RDone)))
	}
	taken(t, h[:api.MaxHistory])
	refused(t, h, api.ErrMany)
	for i := range h {
		h[i].Reply.Code = api.RLead // what doesn't count is an operation, too
	}
	taken(t, h[:api.MaxHistory])
	refused(t, h, api.ErrMany)
	h[0].Kind, h[1].Call = 0, 0
	refused(t, h, api.ErrMany)
	refused(t, make([]api.Op, 100000), api.ErrMany)
}

func TestP16_1_Kind(t *testing.T) {
	for kind := -3; kind < 10; kind++ {
		for _, x := range list(get(1, 2, reply(api.RDone)), opened(get(1, 0, reply(0)))) {
			x.Kind = kind
			if kind >= api.OpGet && kind <= api.OpSwap {
				taken(t, list(x))
				continue
			}
			refused(t, list(x), api.ErrKind)
			x.Call = 0 // the kind's is the first one
			refused(t, list(x), api.ErrKind)
		}
	}
	for _, kind := range append(far(), 1<<8+1, 1<<16+2, 1<<32+3) {
		x := put("x", 1, 2, reply(api.RDone))
		x.Kind = kind
		refused(t, list(x), api.ErrKind)
	}
}

func TestP16_1_Times(t *testing.T) {
	done := reply(api.RDone)
	for _, kind := range []int{api.OpGet, api.OpPut, api.OpDelete, api.OpSwap} {
		for call := -3; call < 6; call++ {
			for back := -3; back < 6; back++ {
				x := api.Op{Kind: kind, Key: "a", Call: call, Back: back, Reply: done}
				if back == 0 {
					x.Reply = api.Reply{}
				}
				if call >= 1 && (back == 0 || back >= call) {
					taken(t, list(x))
				} else {
					refused(t, list(x), api.ErrForm)
				}
			}
		}
	}
	top := math.MaxInt
	taken(t, list(put("x", top, top, done), put("x", 1, top, done), opened(put("x", top, 0, done))))
	for _, n := range []int{math.MinInt, math.MinInt + 1, -1} {
		refused(t, list(put("x", n, 5, done)), api.ErrForm)
		refused(t, list(opened(put("x", n, 0, done))), api.ErrForm)
		refused(t, list(put("x", 5, n, done)), api.ErrForm)
		refused(t, list(put("x", n, n, done)), api.ErrForm)
		refused(t, list(put("x", 5, n, api.Reply{})), api.ErrForm)
	}
	refused(t, list(put("x", top, top-1, done)), api.ErrForm)
}

func TestP16_1_Reply(t *testing.T) {
	for _, x := range list(get(1, 2, reply(0)), put("x", 1, 2, reply(0)), remove(1, 2, reply(0)), swap("x", "y", 1, 2, reply(0))) {
		for code := -3; code < 20; code++ {
			for _, value := range []string{"", "q"} {
				x.Reply = reply(code, value)
				if code >= api.RDone && code <= api.RDown {
					taken(t, list(x))
				} else {
					refused(t, list(x), api.ErrForm)
				}
				y := x
				y.Back = 0
				if code == 0 && value == "" {
					taken(t, list(y))
				} else {
					refused(t, list(y), api.ErrForm)
				}
			}
		}
		for _, code := range far() {
			x.Reply = reply(code)
			refused(t, list(x), api.ErrForm)
			y := x
			y.Back = 0
			refused(t, list(y), api.ErrForm)
		}
	}
}

// The first operation that is wrong tells the error, whatever stands behind it.
func TestP16_1_OneByOne(t *testing.T) {
	good := put("x", 1, 2, reply(api.RDone))
	form, kind := put("x", 0, 2, reply(api.RDone)), good
	kind.Kind = 5
	refused(t, list(good, form, kind), api.ErrForm)
	refused(t, list(good, kind, form), api.ErrKind)
	refused(t, list(kind, good), api.ErrKind)
	refused(t, list(good, good, form), api.ErrForm)
	// What is of no key that is asked for, or does not count, is wrong as well.
	refused(t, list(of("z", form)), api.ErrForm)
	refused(t, list(get(0, 0, api.Reply{})), api.ErrForm)
	refused(t, list(put("x", 0, 2, reply(api.RLead))), api.ErrForm)
}

// full are as many operations of the key a that count as may be judged, of all kinds.
func full() []api.Op {
	var h []api.Op
	for i := range api.MaxOps {
		h = append(h, list(put("x", 1, 2, reply(api.RDone)), opened(remove(1, 0, reply(0))), get(1, 2, reply(api.RNone)), swap("x", "y", 1, 2, reply(api.ROther, "x")))[i%4])
	}
	return h
}

func TestP16_1_OfOneKey(t *testing.T) {
	h := full()
	taken(t, h)
	for _, x := range h[:4] {
		refused(t, append(slices.Clone(h), x), api.ErrMany)
		refused(t, append(list(x), h...), api.ErrMany)
		taken(t, append(slices.Clone(h), of("b", x), of("", x), of("A", x), of("aa", x), of("a\x00", x)))
	}
	// Those that don't count have room.
	for code := api.ROld; code <= api.RDown; code++ {
		h = append(h, put("x", 1, 2, reply(code)), get(1, 2, reply(code)), opened(get(1, 0, reply(0))))
	}
	taken(t, h)
	// Another key's are too many as well; and what is wrong by itself is told first.
	for range api.MaxOps + 1 {
		h = append(h, of("b", opened(put("x", 1, 0, reply(0)))))
	}
	refused(t, h, api.ErrMany)
	refused(t, append(slices.Clone(h), put("x", 2, 1, reply(api.RDone))), api.ErrForm)
	wrong := put("x", 1, 2, reply(api.RDone))
	wrong.Kind = 0
	refused(t, append(slices.Clone(h), wrong), api.ErrKind)
}

// As many as there may be, of each key as many as there may be.
func TestP16_1_AllFull(t *testing.T) {
	var h []api.Op
	for i := range api.MaxHistory {
		h = append(h, of(fmt.Sprint(i/api.MaxOps), opened(put("x", 1, 0, reply(0)))))
	}
	taken(t, h)
	h[0].Key = h[api.MaxOps].Key
	refused(t, h, api.ErrMany)
}
