package lin_test

import (
	"fmt"
	"math"
	"strings"
	"testing"

	"synod/api"
	"synod/lin"
)

// far are numbers that are far from all that count.
func far() []int {
	return []int{math.MinInt, math.MinInt + 1, -1 << 62, -8, -1, 1<<62 + 1, math.MaxInt - 1, math.MaxInt}
}

// say is all of a list of answers, as one text.
func say(l ...any) string { return strings.TrimSuffix(fmt.Sprintln(l...), "\n") }

// is holds an answer against the one that the document asks.
func is(t *testing.T, have, want any) {
	t.Helper()
	if say(have) != say(want) {
		t.Errorf("have %v; want %v", have, want)
	}
}

// reply is a code, and perhaps a value.
func reply(code int, value ...string) api.Reply {
	return api.Reply{Code: code, Value: strings.Join(value, "")}
}

// put, get, remove and swap are operations of the key a, called at one time and answered at another one.
func put(value string, call, back int, r api.Reply) api.Op {
	return api.Op{Kind: api.OpPut, Key: "a", Value: value, Call: call, Back: back, Reply: r}
}

func get(call, back int, r api.Reply) api.Op {
	return api.Op{Kind: api.OpGet, Key: "a", Call: call, Back: back, Reply: r}
}

func remove(call, back int, r api.Reply) api.Op {
	return api.Op{Kind: api.OpDelete, Key: "a", Call: call, Back: back, Reply: r}
}

func swap(value, old string, call, back int, r api.Reply) api.Op {
	return api.Op{Kind: api.OpSwap, Key: "a", Value: value, Old: old, Call: call, Back: back, Reply: r}
}

// opened is an operation without an answer.
func opened(x api.Op) api.Op {
	x.Back, x.Reply = 0, api.Reply{}
	return x
}

// of is an operation of another key.
func of(key string, x api.Op) api.Op {
	x.Key = key
	return x
}

// list is a history.
func list(h ...api.Op) []api.Op { return h }

// show is an operation as text; a ? in place of an answer stands for none.
func show(x api.Op) string {
	word := fmt.Sprintf("kind %d", x.Kind)
	if x.Kind >= api.OpGet && x.Kind <= api.OpSwap {
		word = []string{"get", "put", "delete", "swap"}[x.Kind-1]
	}
	if x.Back == 0 {
		return fmt.Sprintf("%s %q %q %q (%d, ?)", word, x.Key, x.Value, x.Old, x.Call)
	}
	return fmt.Sprintf("%s %q %q %q (%d, %d, %d %q)", word, x.Key, x.Value, x.Old, x.Call, x.Back, x.Reply.Code, x.Reply.Value)
}

// showAll is a history as text.
func showAll(h []api.Op) string {
	var b strings.Builder
	for i, x := range h {
		fmt.Fprintf(&b, "%d: %s\n", i, show(x))
	}
	return b.String()
}

// judged holds a history of the key a against its judgement: an order, or "none".
func judged(t *testing.T, h []api.Op, want string) {
	t.Helper()
	order, ok, e := lin.Explain(h, "a")
	have := strings.Trim(say(order), "[]")
	if !ok {
		have = "none"
		if len(order) != 0 {
			t.Errorf("beside a false: %v", order)
		}
	}
	all, f := lin.Check(h)
	if have != want || e != api.OK || f != api.OK || all != (want != "none") {
		t.Errorf("have %s (%d), %v (%d); want %s of\n%s", have, e, all, f, want, showAll(h))
	}
}

// The table of the chapter, line by line.
func TestP16_4_Examples(t *testing.T) {
	done, none, limit := reply(api.RDone), reply(api.RNone), reply(api.RLimit)
	x := reply(api.RDone, "x")
	judged(t, list(put("x", 1, 2, done), get(3, 4, x)), "0 1")
	judged(t, list(put("x", 1, 2, done), get(3, 4, none)), "none")
	judged(t, list(put("x", 1, 5, done), get(2, 3, none), get(4, 6, x)), "1 0 2")
	judged(t, list(opened(put("x", 1, 0, done)), get(2, 3, x), get(4, 5, none)), "none")
	judged(t, list(opened(put("x", 1, 0, done)), get(2, 3, none)), "1")
	judged(t, list(put("x", 1, 2, limit), get(3, 4, none)), "1")
	judged(t, list(swap("y", "x", 1, 4, done), put("x", 2, 3, done)), "1 0")
	judged(t, list(put("x", 2, 2, limit)), "")
	for _, c := range []struct {
		x api.Op
		e api.Errno
	}{
		{put("x", 2, 1, done), api.ErrForm},
		{api.Op{Kind: 9, Key: "a", Call: 1, Back: 2, Reply: done}, api.ErrKind},
	} {
		ok, e := lin.Check(list(c.x))
		is(t, say(ok, e), say(false, c.e))
		order, ok, e := lin.Explain(list(c.x), "a")
		is(t, say(order, ok, e), say([]int{}, false, c.e))
	}
}
