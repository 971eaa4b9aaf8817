package lin_test

import (
	"fmt"
	"slices"
	"testing"

	"synod/api"
	"synod/lin"
)

func TestP16_2_Counts(t *testing.T) {
	for kind := -1; kind < 8; kind++ {
		for code := -1; code < 13; code++ {
			for _, value := range []string{"", "q"} {
				x := api.Op{Kind: kind, Key: "a", Call: 1, Reply: reply(code, value)}
				is(t, lin.Counts(x), kind != api.OpGet)
				for _, back := range append(far(), 1, 2) {
					x.Back = back
					is(t, lin.Counts(x), code == api.RDone || code == api.RNone || code == api.ROther)
				}
			}
		}
		for _, code := range far() {
			is(t, lin.Counts(api.Op{Kind: kind, Call: 1, Back: 2, Reply: reply(code)}), false)
		}
	}
	is(t, lin.Counts(api.Op{}), true) // open, and no read
	is(t, lin.Counts(api.Op{Kind: api.OpGet}), false)
}

// Whatever else an operation has, its Kind, whether it is open and its Code are what counts.
func TestP16_2_CountsOnNothingElse(t *testing.T) {
	for _, n := range append(far(), 0, 1) {
		for _, x := range list(put("x", n, 2, reply(api.RDone)), opened(swap("x", "y", n, 0, reply(0)))) {
			x.Client, x.Seq, x.Key = n, n, ""
			is(t, lin.Counts(x), true)
		}
		for _, x := range list(put("x", n, 2, reply(api.RBusy)), opened(get(n, 0, reply(0)))) {
			x.Client, x.Seq, x.Key = n, n, ""
			is(t, lin.Counts(x), false)
		}
	}
}

// keys holds the keys of a history.
func keys(t *testing.T, h []api.Op, want ...string) {
	t.Helper()
	if have := lin.Keys(h); !slices.Equal(have, want) {
		t.Errorf("have %q; want %q", have, want)
	}
}

func TestP16_2_Keys(t *testing.T) {
	keys(t, nil)
	keys(t, list())
	x := put("x", 1, 2, reply(api.RDone))
	keys(t, list(x), "a")
	keys(t, list(x, x, get(1, 2, reply(api.RNone))), "a")
	keys(t, list(of("b", x), x, of("", x), of("b", x), x), "", "a", "b")
	// Byte by byte: not by letters, not by runes, not by lengths.
	keys(t, list(of("\xff", x), of("é", x), of("b", x), of("B", x), of("aa", x), of("a", x), of("a\x00", x), of("\x00", x), of("10", x), of("9", x)),
		"\x00", "10", "9", "B", "a", "a\x00", "aa", "b", "é", "\xff")
}

func TestP16_2_KeysOfThoseThatCount(t *testing.T) {
	var h []api.Op
	for code := -1; code < 13; code++ {
		h = append(h, of(fmt.Sprintf("put%02d", code), put("x", 1, 2, reply(code))), of(fmt.Sprintf("get%02d", code), get(1, 2, reply(code))))
	}
	h = append(h, of("d", opened(get(1, 0, reply(0)))), of("e", opened(remove(1, 0, reply(0)))))
	keys(t, h, "e", "get01", "get02", "get03", "put01", "put02", "put03")
	// One that counts is enough.
	keys(t, list(put("x", 1, 2, reply(api.RLead)), opened(get(1, 0, reply(0))), opened(put("x", 1, 0, reply(0))), put("x", 1, 2, reply(api.RLost))), "a")
}

// Keys tells of histories that may not be judged, too.
func TestP16_2_KeysOfAnyHistory(t *testing.T) {
	keys(t, list(of("k", api.Op{}), of("l", api.Op{Kind: api.OpGet}), of("m", put("x", 0, -1, reply(api.RDone))), of("n", api.Op{Kind: 9, Call: 5, Back: 1, Reply: reply(api.ROther)})), "k", "m", "n")
	var h []api.Op
	var want []string
	for i := range api.MaxHistory * 3 {
		h = append(h, of(fmt.Sprintf("%04d", 5000-i/2), put("x", 1, 2, reply(api.RDone))))
		if i%2 == 0 {
			want = append([]string{h[i].Key}, want...)
		}
	}
	keys(t, h, want...)
}
