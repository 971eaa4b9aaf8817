package wire_test

import (
	"bytes"
	"fmt"
	"math"
	"strings"
	"testing"

	"synod/api"
	"synod/wire"
)

// asked calls a reader and says what it answered.
type asked func(*wire.Reader) string

func getInt(r *wire.Reader) string  { return fmt.Sprint(r.Int()) }
func getBool(r *wire.Reader) string { return fmt.Sprint(r.Bool()) }
func getBytes(most int) asked {
	return func(r *wire.Reader) string { return fmt.Sprintf("%x", r.Bytes(most)) }
}
func getText(most int) asked {
	return func(r *wire.Reader) string { return fmt.Sprintf("%q", r.Text(most)) }
}

// step is a call of a reader, and what is to be seen behind it.
type step struct {
	call asked
	want string
	at   int
	e    api.Errno
}

func play(t *testing.T, name string, b []byte, steps []step) {
	t.Helper()
	r := wire.NewReader(b)
	for i, s := range steps {
		got := s.call(r)
		for range 2 {
			if at, left, e := r.At(), r.Left(), r.Done(); got != s.want || at != s.at || left != len(b)-s.at || e != s.e {
				t.Errorf("%s, of %x, step %d: %s, at %d, left %d, %d; not %s, at %d, %d", name, b, i, got, at, left, e, s.want, s.at, s.e)
			}
		}
	}
}

func TestP1_4_Reader(t *testing.T) {
	long := strings.Repeat("x", 128)
	for _, x := range []struct {
		b     []byte
		steps []step
	}{
		{[]byte{5, 2, 'a', 'b', 1}, []step{{getInt, "5", 1, api.ErrLong}, {getText(2), `"ab"`, 4, api.ErrLong}, {getBool, "true", 5, api.OK}}},
		{[]byte{5, 2, 'a', 'b', 0}, []step{{getInt, "5", 1, api.ErrLong}, {getBytes(2), "6162", 4, api.ErrLong}, {getBool, "false", 5, api.OK}}},
		{[]byte{0, 0}, []step{{getBool, "false", 1, api.ErrLong}, {getBool, "false", 2, api.OK}}},
		{[]byte{0x7f, 0x80, 1}, []step{{getInt, "127", 1, api.ErrLong}, {getInt, "128", 3, api.OK}}},
		{full(0x40), []step{{getInt, "4611686018427387904", 9, api.OK}}},
		{[]byte{0, 0}, []step{{getBytes(0), "", 1, api.ErrLong}, {getBytes(-1), "", 2, api.OK}}},
		{[]byte{0, 0}, []step{{getText(0), `""`, 1, api.ErrLong}, {getText(math.MinInt), `""`, 2, api.OK}}},
		{[]byte{1, 9}, []step{{getBytes(math.MaxInt), "09", 2, api.OK}}},
		{[]byte{3, 0, 0xff, 0x80}, []step{{getText(3), `"\x00\xff\x80"`, 4, api.OK}}},
		{append([]byte{0x80, 1}, long...), []step{{getText(128), `"` + long + `"`, 130, api.OK}}},
	} {
		play(t, "read", x.b, x.steps)
	}
}

func TestP1_4_EmptyReader(t *testing.T) {
	for _, b := range [][]byte{nil, {}} {
		r := wire.NewReader(b)
		if r.At() != 0 || r.Left() != 0 || r.Done() != api.OK {
			t.Errorf("at %d, left %d, %d", r.At(), r.Left(), r.Done())
		}
	}
	if r := wire.NewReader([]byte{1, 2}); r.At() != 0 || r.Left() != 2 || r.Done() != api.ErrLong {
		t.Errorf("at %d, left %d, %d", r.At(), r.Left(), r.Done())
	}
}

func TestP1_4_ReaderErrors(t *testing.T) {
	for _, x := range []struct {
		name string
		b    []byte // behind a 05 that is read first
		call asked
		zero string
		e    api.Errno
	}{
		{"Int: at the end", nil, getInt, "0", api.ErrShort},
		{"Int: cut off", []byte{0xac}, getInt, "0", api.ErrShort},
		{"Int: eight bytes", full(), getInt, "0", api.ErrShort},
		{"Int: a last byte 0", []byte{0x80, 0, 1}, getInt, "0", api.ErrForm},
		{"Int: too many bytes", full(0x80, 1), getInt, "0", api.ErrForm},
		{"Int: above MaxIndex", full(0x41), getInt, "0", api.ErrRange},
		{"Bool: at the end", nil, getBool, "false", api.ErrShort},
		{"Bool: cut off", []byte{0x81}, getBool, "false", api.ErrShort},
		{"Bool: a last byte 0", []byte{0x81, 0}, getBool, "false", api.ErrForm},
		{"Bool: above MaxIndex", full(0x41), getBool, "false", api.ErrRange},
		{"Bool: 2", []byte{2}, getBool, "false", api.ErrForm},
		{"Bool: 128", []byte{0x80, 1}, getBool, "false", api.ErrForm},
		{"Bool: 129", []byte{0x81, 1}, getBool, "false", api.ErrForm},
		{"Bool: MaxIndex", full(0x40), getBool, "false", api.ErrForm},
		{"length: at the end", nil, getBytes(9), "", api.ErrShort},
		{"length: cut off", []byte{0x81}, getBytes(0), "", api.ErrShort},
		{"length: a last byte 0", []byte{0x81, 0, 7}, getBytes(0), "", api.ErrForm},
		{"length: above MaxIndex", full(0x41), getBytes(0), "", api.ErrRange},
		{"above most", []byte{3, 1, 2, 3}, getBytes(2), "", api.ErrLong},
		{"above most, and too few", []byte{3, 1}, getBytes(2), "", api.ErrLong},
		{"above most 0", []byte{1, 1}, getBytes(0), "", api.ErrLong},
		{"above most below 0", []byte{1, 1}, getBytes(-1), "", api.ErrLong},
		{"above the least most", []byte{1, 1}, getBytes(math.MinInt), "", api.ErrLong},
		{"too few", []byte{3, 1, 2}, getBytes(3), "", api.ErrShort},
		{"none of them", []byte{1}, getBytes(1), "", api.ErrShort},
		{"MaxIndex of them", full(0x40, 1), getBytes(math.MaxInt), "", api.ErrShort},
	} {
		first := step{getInt, "5", 1, api.ErrLong}
		if len(x.b) == 0 {
			first.e = api.OK
		}
		play(t, x.name, append([]byte{5}, x.b...), []step{first, {x.call, x.zero, 1, x.e},
			{getInt, "0", 1, x.e}, {getBool, "false", 1, x.e}, {getBytes(9), "", 1, x.e}, {getText(9), `""`, 1, x.e}})
	}
}

func TestP1_4_TextErrors(t *testing.T) {
	for _, x := range []struct {
		b    []byte
		most int
		e    api.Errno
	}{
		{nil, 9, api.ErrShort},
		{[]byte{0x81}, 0, api.ErrShort},
		{[]byte{0x81, 0, 7}, 0, api.ErrForm},
		{full(0x41), 0, api.ErrRange},
		{[]byte{3, 1, 2, 3}, 2, api.ErrLong},
		{[]byte{3, 1}, 2, api.ErrLong},
		{[]byte{1, 1}, 0, api.ErrLong},
		{[]byte{1, 1}, -1, api.ErrLong},
		{[]byte{1, 1}, math.MinInt, api.ErrLong},
		{[]byte{3, 1, 2}, 3, api.ErrShort},
		{full(0x40, 1), math.MaxInt, api.ErrShort},
	} {
		play(t, "text", x.b, []step{{getText(x.most), `""`, 0, x.e}, {getInt, "0", 0, x.e}, {getText(9), `""`, 0, x.e}})
	}
}

func TestP1_4_AskedBehindTheEnd(t *testing.T) {
	play(t, "end", []byte{1}, []step{{getBool, "true", 1, api.OK}, {getInt, "0", 1, api.ErrShort}, {getBool, "false", 1, api.ErrShort}})
}

func TestP1_5_ReaderHasItsOwnCopy(t *testing.T) {
	room := []byte{5, 2, 'a', 'b', 1, 1, 1}
	r := wire.NewReader(room[:5])
	if r.Left() != 5 {
		t.Errorf("it reads behind the length: left %d", r.Left())
	}
	scribble(room)
	if n, s, v, e := r.Int(), r.Text(2), r.Bool(), r.Done(); n != 5 || s != "ab" || !v || e != api.OK {
		t.Errorf("%d, %q, %v, %d", n, s, v, e)
	}
	if !bytes.Equal(room, bytes.Repeat([]byte{0xee}, 7)) {
		t.Errorf("the argument is changed: %x", room)
	}
}

func TestP1_5_ReaderAnswersNewMemory(t *testing.T) {
	b := []byte{0, 2, 'a', 'b', 2, 'c', 'd', 3, 'e', 'f', 'g', 7}
	kept := bytes.Clone(b)
	r := wire.NewReader(b)
	none := r.Bytes(9)
	scribble(none)
	_ = append(none, 0xee, 0xee)
	first := r.Bytes(9)
	scribble(first)
	_ = append(first, 0xee, 0xee)
	second := r.Bytes(9)
	_ = append(second, 0xee)
	third := r.Text(9)
	scribble(second)
	if n := r.Int(); third != "efg" || n != 7 || r.Done() != api.OK {
		t.Errorf("%q, %d, %d", third, n, r.Done())
	}
	if !bytes.Equal(first, []byte{0xee, 0xee}) || !bytes.Equal(second, []byte{0xee, 0xee}) || !bytes.Equal(b, kept) {
		t.Errorf("%x, %x, %x", first, second, b)
	}
}
