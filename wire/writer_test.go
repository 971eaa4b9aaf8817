package wire_test

import (
	"bytes"
	"math"
	"strings"
	"testing"

	"synod/api"
	"synod/wire"
)

type told func(*wire.Writer)

func putInt(n int) told                { return func(w *wire.Writer) { w.Int(n) } }
func putBool(v bool) told              { return func(w *wire.Writer) { w.Bool(v) } }
func putBytes(b []byte, most int) told { return func(w *wire.Writer) { w.Bytes(b, most) } }
func putText(s string, most int) told  { return func(w *wire.Writer) { w.Text(s, most) } }
func written(steps ...told) *wire.Writer {
	w := wire.NewWriter()
	for _, step := range steps {
		step(w)
	}
	return w
}

func TestP1_3_Writer(t *testing.T) {
	long := strings.Repeat("x", 128)
	for i, x := range []struct {
		steps []told
		want  []byte
	}{
		{nil, nil},
		{[]told{putInt(5), putText("ab", 2), putBool(true)}, []byte{5, 2, 'a', 'b', 1}},
		{[]told{putInt(0), putInt(127), putInt(128)}, []byte{0, 0x7f, 0x80, 1}},
		{[]told{putInt(1<<56 - 1)}, []byte{0xff, 0xff, 0xff, 0xff, 0xff, 0xff, 0xff, 0x7f}},
		{[]told{putInt(1 << 56), putInt(1 << 62)}, append(full(1), full(0x40)...)},
		{[]told{putBool(false), putBool(true), putBool(false)}, []byte{0, 1, 0}},
		{[]told{putBytes([]byte{7, 8}, 2), putBytes([]byte{9}, 2)}, []byte{2, 7, 8, 1, 9}},
		{[]told{putBytes(nil, 0), putBytes([]byte{}, -1), putBytes(nil, math.MinInt)}, []byte{0, 0, 0}},
		{[]told{putText("", 0), putText("", -1), putText("", math.MinInt)}, []byte{0, 0, 0}},
		{[]told{putText("a", math.MaxInt), putBytes([]byte{'b'}, math.MaxInt)}, []byte{1, 'a', 1, 'b'}},
		{[]told{putText("\x00\xff\u00e9", 4)}, []byte{4, 0, 0xff, 0xc3, 0xa9}},
		{[]told{putText(long, 128)}, append([]byte{0x80, 1}, long...)},
		{[]told{putBytes([]byte(long), 128)}, append([]byte{0x80, 1}, long...)},
	} {
		if b, e := written(x.steps...).Done(); e != api.OK || !bytes.Equal(b, x.want) {
			t.Errorf("%d: %x, %d; not %x", i, b, e, x.want)
		}
	}
}

func TestP1_3_WriterKeepsItsFirstError(t *testing.T) {
	for i, x := range []struct {
		steps []told
		e     api.Errno
	}{
		{[]told{putInt(-1)}, api.ErrRange},
		{[]told{putInt(1<<62 + 1)}, api.ErrRange},
		{[]told{putInt(math.MinInt)}, api.ErrRange},
		{[]told{putInt(math.MaxInt)}, api.ErrRange},
		{[]told{putBytes([]byte{1}, 0)}, api.ErrLong},
		{[]told{putBytes([]byte{1}, -1)}, api.ErrLong},
		{[]told{putBytes([]byte{1}, math.MinInt)}, api.ErrLong},
		{[]told{putBytes([]byte{1, 2, 3}, 2)}, api.ErrLong},
		{[]told{putText("a", 0)}, api.ErrLong},
		{[]told{putText("a", -1)}, api.ErrLong},
		{[]told{putText("a", math.MinInt)}, api.ErrLong},
		{[]told{putText("\u00e9", 1)}, api.ErrLong},
		{[]told{putInt(5), putBytes([]byte{1, 2, 3}, 2), putInt(6)}, api.ErrLong},
		{[]told{putInt(5), putText("abc", 2), putInt(-1)}, api.ErrLong},
		{[]told{putInt(-1), putText("abc", 2)}, api.ErrRange},
		{[]told{putInt(-1), putBytes([]byte{1}, 0)}, api.ErrRange},
	} {
		w := written(x.steps...)
		for _, step := range []told{putBool(true), putInt(7), putInt(-1), putBytes([]byte{1}, 1), putBytes([]byte{1}, 0), putText("a", 1), putText("a", 0)} {
			if b, e := w.Done(); e != x.e || len(b) != 0 {
				t.Errorf("%d: %x, %d; not %d", i, b, e, x.e)
			}
			step(w)
		}
		if b, e := w.Done(); e != x.e || len(b) != 0 {
			t.Errorf("%d, told more: %x, %d; not %d", i, b, e, x.e)
		}
	}
}

func TestP1_3_WriterIsToldMoreBehindDone(t *testing.T) {
	w := wire.NewWriter()
	var want []byte
	for n := range 300 {
		w.Int(n % 128)
		want = append(want, byte(n%128))
		for range 2 {
			if b, e := w.Done(); e != api.OK || !bytes.Equal(b, want) {
				t.Fatalf("behind %d: %x, %d", n, b, e)
			}
		}
	}
	w.Int(-1)
	if b, e := w.Done(); e != api.ErrRange || len(b) != 0 {
		t.Errorf("%x, %d", b, e)
	}
}

func TestP1_3_WritersKnowNothingOfOneAnother(t *testing.T) {
	a, b := wire.NewWriter(), wire.NewWriter()
	a.Int(1)
	b.Int(-1)
	a.Int(2)
	if got, e := a.Done(); e != api.OK || !bytes.Equal(got, []byte{1, 2}) {
		t.Errorf("%x, %d", got, e)
	}
}

func TestP1_5_WriterKeepsNothingHandedIn(t *testing.T) {
	room := []byte{1, 2, 3, 4}
	w := wire.NewWriter()
	w.Bytes(room[:2], 2)
	w.Int(9)
	if !bytes.Equal(room, []byte{1, 2, 3, 4}) {
		t.Errorf("the argument is changed: %x", room)
	}
	scribble(room)
	if b, _ := w.Done(); !bytes.Equal(b, []byte{2, 1, 2, 9}) {
		t.Errorf("the argument is kept: %x", b)
	}
}

func TestP1_5_WriterAnswersNewMemory(t *testing.T) {
	w := written(putInt(1), putText("abcdefgh", 8))
	want := append([]byte{1, 8}, "abcdefgh"...)
	first, _ := w.Done()
	second, _ := w.Done()
	scribble(first)
	w.Int(3)
	third, _ := w.Done()
	scribble(first)
	if !bytes.Equal(second, want) || !bytes.Equal(third, append(want, 3)) {
		t.Errorf("%x, %x", second, third)
	}
	grown := append(second, 7)
	w.Int(4)
	if fourth, _ := w.Done(); !bytes.Equal(fourth, append(want, 3, 4)) || grown[len(grown)-1] != 7 {
		t.Errorf("%x, %x", fourth, grown)
	}
}
