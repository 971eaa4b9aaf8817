package frame_test

import (
	"bytes"
	"iter"
	"slices"
	"testing"

	"synod/api"
	"synod/frame"
)

// seen is one step of a sequence.
type seen struct {
	at      int
	payload string
}

// walk goes over a whole sequence.
func walk(frames iter.Seq2[int, []byte]) []seen {
	var list []seen
	for at, p := range frames {
		list = append(list, seen{at, string(p)})
	}
	return list
}

// texts are payloads as texts, so that they may be held against each other.
func texts(payloads [][]byte) []string {
	list := []string{}
	for _, p := range payloads {
		list = append(list, string(p))
	}
	return list
}

// row is a case of All: what is told of these bytes.
type row struct {
	b     []byte
	want  []string
	count int
	e     api.Errno
}

func rows() []row {
	most := bytes.Repeat([]byte("m"), api.MaxFrame)
	long := []byte{1, 0, 0x10, 0}
	list := []row{
		{nil, []string{}, 0, api.OK},
		{[]byte{}, []string{}, 0, api.OK},
		{right(""), []string{""}, 8, api.OK},
		{right("ab"), []string{"ab"}, 10, api.OK},
		{join(right("a"), right(""), right("cde")), []string{"a", "", "cde"}, 28, api.OK},
		{join(right(""), right(""), right("")), []string{"", "", ""}, 24, api.OK},
		{join(right("a"), laid(api.MaxFrame, most), right("b")), []string{"a", string(most), "b"}, api.MaxFrame + 26, api.OK},
		{join(right("a"), right("b")[:8]), []string{"a"}, 9, api.ErrShort},
		{join(right("a"), []byte{0}), []string{"a"}, 9, api.ErrShort},
		{join(right("a"), long), []string{"a"}, 9, api.ErrLong},
		{join(right("a"), turned(right("b"), 8, 1)), []string{"a"}, 9, api.ErrSum},
		// What stands behind the first fault isn't told, nor is its own fault.
		{join(right("a"), turned(right("b"), 8, 1), right("c")), []string{"a"}, 9, api.ErrSum},
		{join(right("a"), right(""), turned(right("b"), 8, 1), long), []string{"a", ""}, 17, api.ErrSum},
		{join(right("a"), long, right("c")), []string{"a"}, 9, api.ErrLong},
		{join(turned(right("a"), 4, 1), right("c")), []string{}, 0, api.ErrSum},
	}
	for _, x := range wrongFrames() {
		if len(x.b) > 0 {
			list = append(list, row{x.b, []string{}, 0, x.e}, row{join(right("xy"), right("z"), x.b), []string{"xy", "z"}, 19, x.e})
		}
	}
	return list
}

func TestP2_4_All(t *testing.T) {
	for i, x := range rows() {
		p, n, e := frame.All(x.b)
		if !slices.Equal(texts(p), x.want) || n != x.count || e != x.e {
			t.Errorf("%d: All(%x) = %d payloads, %d, %d; not %d, %d, %d", i, brief(x.b), len(p), n, e, len(x.want), x.count, x.e)
		}
	}
}

func TestP2_4_EachAsAll(t *testing.T) {
	for i, x := range rows() {
		at, want := 0, []seen(nil)
		for _, p := range x.want {
			want = append(want, seen{at, p})
			at += 8 + len(p)
		}
		frames := frame.Each(x.b)
		for round := range 3 {
			if got := walk(frames); !slices.Equal(got, want) {
				t.Errorf("%d, round %d: Each(%x) has %d frames; not %d", i, round, brief(x.b), len(got), len(want))
			}
		}
	}
}

func TestP2_4_EachStops(t *testing.T) {
	frames := frame.Each(join(right("a"), right(""), right("cde"), right("f")))
	for stop := 1; stop <= 5; stop++ {
		calls := 0
		frames(func(int, []byte) bool {
			calls++
			return calls < stop
		})
		if calls != min(stop, 4) {
			t.Errorf("stopped at %d: %d were told", stop, calls)
		}
	}
	for at, p := range frames {
		if at != 0 || string(p) != "a" {
			t.Errorf("begun anew: %d, %s", at, p)
		}
		break
	}
	if got := walk(frames); len(got) != 4 {
		t.Errorf("behind a stop: %v", got)
	}
}

func TestP2_4_EachWithinItself(t *testing.T) {
	frames := frame.Each(join(right("a"), right("b"), right("c")))
	told := ""
	for _, p := range frames {
		for _, q := range frames {
			told += string(p) + string(q) + " "
		}
	}
	if told != "aa ab ac ba bb bc ca cb cc " {
		t.Error(told)
	}
	next, stop := iter.Pull2(frames)
	defer stop()
	next()
	walk(frames)
	if at, p, ok := next(); at != 9 || string(p) != "b" || !ok {
		t.Errorf("%d, %s, %t", at, p, ok)
	}
}

func TestP2_5_Join(t *testing.T) {
	most := bytes.Repeat([]byte("m"), api.MaxFrame)
	for i, x := range []struct {
		payloads [][]byte
		want     []byte
	}{
		{nil, nil},
		{[][]byte{}, nil},
		{[][]byte{nil}, right("")},
		{[][]byte{{}, nil}, join(right(""), right(""))},
		{[][]byte{[]byte("ab")}, right("ab")},
		{[][]byte{[]byte("b"), []byte("a"), nil, []byte("b")}, join(right("b"), right("a"), right(""), right("b"))},
		{[][]byte{most, []byte("a"), most}, join(laid(api.MaxFrame, most), right("a"), laid(api.MaxFrame, most))},
	} {
		if b, e := frame.Join(x.payloads); e != api.OK || !bytes.Equal(b, x.want) {
			t.Errorf("%d: Join = %x (%d bytes), %d", i, brief(b), len(b), e)
		}
	}
}

func TestP2_5_JoinTooLong(t *testing.T) {
	over, a := make([]byte, api.MaxFrame+1), []byte("a")
	for i, x := range [][][]byte{{over}, {over, a}, {a, over}, {a, nil, over, a}, {over, over}} {
		if b, e := frame.Join(x); e != api.ErrLong || len(b) != 0 {
			t.Errorf("%d: Join = %x, %d", i, brief(b), e)
		}
	}
}
