package wire_test

import (
	"bytes"
	"encoding/binary"
	"math"
	"math/big"
	"slices"
	"testing"

	"synod/api"
	"synod/wire"
)

// full is eight bytes of a number that goes on, then those that are given.
func full(last ...byte) []byte {
	return append(bytes.Repeat([]byte{0x80}, 8), last...)
}

// edges are the numbers where the count of bytes, or whether it is a number, changes, and their neighbours.
func edges() []int {
	var list []int
	for k := range 63 {
		for d := -1; d <= 1; d++ {
			if n := 1<<k + d; n <= api.MaxIndex {
				list = append(list, n)
			}
		}
	}
	for n := range 70000 {
		list = append(list, n)
	}
	return list
}

// scribble writes all over a list and its spare room.
func scribble(b []byte) {
	for i := range b[:cap(b)] {
		b[:cap(b)][i] = 0xee
	}
}

func TestP1_1_PutIntAndSize(t *testing.T) {
	for _, x := range []struct {
		n    int
		want []byte
	}{
		{0, []byte{0}},
		{1, []byte{1}},
		{127, []byte{0x7f}},
		{128, []byte{0x80, 1}},
		{300, []byte{0xac, 2}},
		{1<<14 - 1, []byte{0xff, 0x7f}},
		{1 << 14, []byte{0x80, 0x80, 1}},
		{1<<56 - 1, []byte{0xff, 0xff, 0xff, 0xff, 0xff, 0xff, 0xff, 0x7f}},
		{1 << 56, full(1)},
		{1<<62 - 1, []byte{0xff, 0xff, 0xff, 0xff, 0xff, 0xff, 0xff, 0xff, 0x3f}},
		{1 << 62, full(0x40)},
	} {
		b, e := wire.PutInt(x.n)
		if e != api.OK || !bytes.Equal(b, x.want) {
			t.Errorf("PutInt(%d) = %x, %d", x.n, b, e)
		}
		if size := wire.Size(x.n); size != len(x.want) {
			t.Errorf("Size(%d) = %d", x.n, size)
		}
	}
}

func TestP1_1_NoNumber(t *testing.T) {
	for _, n := range []int{-1, -127, -128, -1 << 62, math.MinInt, 1<<62 + 1, math.MaxInt} {
		if b, e := wire.PutInt(n); e != api.ErrRange || len(b) != 0 {
			t.Errorf("PutInt(%d) = %x, %d", n, b, e)
		}
		if size := wire.Size(n); size != 0 {
			t.Errorf("Size(%d) = %d", n, size)
		}
	}
}

func TestP1_1_AsUvarint(t *testing.T) {
	for _, n := range edges() {
		want := binary.AppendUvarint(nil, uint64(n))
		if b, e := wire.PutInt(n); e != api.OK || !bytes.Equal(b, want) {
			t.Errorf("PutInt(%d) = %x, %d", n, b, e)
		}
	}
}

func TestP1_2_Int(t *testing.T) {
	for _, x := range []struct {
		b           []byte
		at, n, size int
	}{
		{[]byte{0xac, 2, 7}, 0, 300, 2},
		{[]byte{0xac, 2, 7}, 1, 2, 1},
		{[]byte{0xac, 2, 7}, 2, 7, 1},
		{[]byte{0}, 0, 0, 1},
		{[]byte{0, 0}, 1, 0, 1},
		{[]byte{0x7f, 0x80}, 0, 127, 1},
		{[]byte{0x80, 1}, 0, 128, 2},
		{full(0x40), 0, 1 << 62, 9},
		{full(0x40, 0xff), 0, 1 << 62, 9},
		{full(1), 0, 1 << 56, 9},
		{full(1), 1, 1 << 49, 8},
		{append(bytes.Repeat([]byte{0xff}, 8), 0x3f), 0, 1<<62 - 1, 9},
		{full(0x80, 0x80, 5), 10, 5, 1},
	} {
		if n, size, e := wire.Int(x.b, x.at); n != x.n || size != x.size || e != api.OK {
			t.Errorf("Int(%x, %d) = %d, %d, %d", x.b, x.at, n, size, e)
		}
	}
}

func TestP1_2_WrongInt(t *testing.T) {
	for _, x := range []struct {
		b  []byte
		at int
		e  api.Errno
	}{
		{nil, 0, api.ErrShort},
		{[]byte{}, 0, api.ErrShort},
		{nil, -1, api.ErrShort},
		{[]byte{5}, 1, api.ErrShort},
		{[]byte{5}, 2, api.ErrShort},
		{[]byte{5}, -1, api.ErrShort},
		{[]byte{5}, math.MinInt, api.ErrShort},
		{[]byte{5}, math.MaxInt, api.ErrShort},
		{[]byte{0xac}, 0, api.ErrShort},
		{[]byte{5, 0x80}, 1, api.ErrShort},
		{full(), 0, api.ErrShort},
		{bytes.Repeat([]byte{0xff}, 8), 0, api.ErrShort},
		{full(0x80), 1, api.ErrShort},
		{[]byte{0x80, 0}, 0, api.ErrForm},
		{[]byte{0xff, 0}, 0, api.ErrForm},
		{[]byte{0x80, 0x80, 0}, 1, api.ErrForm},
		{full(0), 0, api.ErrForm},
		{full(0x80), 0, api.ErrForm},
		{bytes.Repeat([]byte{0xff}, 9), 0, api.ErrForm},
		{full(0x80, 0), 0, api.ErrForm},
		{full(0x80, 1), 0, api.ErrForm},
		{full(0xc1, 0x80, 0x80), 0, api.ErrForm},
		{full(0x41), 0, api.ErrRange},
		{full(0x7f), 0, api.ErrRange},
		{append([]byte{0x81, 0x80, 0x80, 0x80, 0x80, 0x80, 0x80, 0x80}, 0x40), 0, api.ErrRange},
		{append(bytes.Repeat([]byte{0xff}, 8), 0x7f), 0, api.ErrRange},
	} {
		if n, size, e := wire.Int(x.b, x.at); n != 0 || size != 0 || e != x.e {
			t.Errorf("Int(%x, %d) = %d, %d, %d; not %d", x.b, x.at, n, size, e, x.e)
		}
	}
}

// plainInt is Int by the chapter's words, without a bound on what it counts with.
func plainInt(b []byte, at int) (int, int, api.Errno) {
	if at < 0 || at >= len(b) {
		return 0, 0, api.ErrShort
	}
	there := b[at:]
	last := slices.IndexFunc(there, func(c byte) bool { return c < 0x80 })
	switch {
	case last < 0 && len(there) < 9:
		return 0, 0, api.ErrShort
	case last < 0 || last > 8 || last > 0 && there[last] == 0:
		return 0, 0, api.ErrForm
	}
	sum := new(big.Int)
	for i := last; i >= 0; i-- {
		sum.Mul(sum, big.NewInt(128)).Add(sum, big.NewInt(int64(there[i]%128)))
	}
	if sum.Cmp(big.NewInt(api.MaxIndex)) > 0 {
		return 0, 0, api.ErrRange
	}
	return int(sum.Int64()), last + 1, api.OK
}

// eachString goes over all lists of the given bytes up to a length.
func eachString(letters []byte, most int, visit func([]byte)) {
	var grow func([]byte)
	grow = func(b []byte) {
		visit(b)
		if len(b) == most {
			return
		}
		for _, c := range letters {
			grow(append(b[:len(b):len(b)], c))
		}
	}
	grow(nil)
}

func TestP1_2_AsThePlainWords(t *testing.T) {
	check := func(b []byte) {
		for at := -1; at <= len(b)+1; at++ {
			n, size, e := wire.Int(b, at)
			wantN, wantSize, wantE := plainInt(b, at)
			if n != wantN || size != wantSize || e != wantE {
				t.Fatalf("Int(%x, %d) = %d, %d, %d; not %d, %d, %d", b, at, n, size, e, wantN, wantSize, wantE)
			}
		}
	}
	var all []byte
	for c := range 256 {
		all = append(all, byte(c))
	}
	eachString(all, 2, check)
	eachString([]byte{0, 0x80}, 11, check)
	eachString([]byte{0, 1, 0x7f, 0x80, 0xff}, 5, check)
	for _, front := range [][]byte{full(), bytes.Repeat([]byte{0xff}, 8), {0x81, 0x80, 0x80, 0x80, 0x80, 0x80, 0x80, 0x80}} {
		eachString(all, 1, func(b []byte) { check(append(front[:7:7], b...)) })
		eachString(all, 1, func(b []byte) { check(append(front[:8:8], b...)) })
		eachString(all, 1, func(b []byte) { check(append(append(front[:8:8], 0x80), b...)) })
	}
}

func TestP1_5_NumbersAreNewMemory(t *testing.T) {
	a, _ := wire.PutInt(300)
	b, _ := wire.PutInt(300)
	scribble(a)
	c, _ := wire.PutInt(300)
	for _, x := range [][]byte{b, c} {
		if !bytes.Equal(x, []byte{0xac, 2}) {
			t.Errorf("PutInt(300) = %x, once another answer was written into", x)
		}
	}
}

func TestP1_5_IntKeepsToItsArgument(t *testing.T) {
	b := []byte{0xac, 2, 7}
	if n, size, e := wire.Int(b[:1], 0); n != 0 || size != 0 || e != api.ErrShort {
		t.Errorf("Int reads behind the length: %d, %d, %d", n, size, e)
	}
	if _, _, e := wire.Int(b[:1], 1); e != api.ErrShort {
		t.Errorf("Int begins behind the length: %d", e)
	}
	wire.Int(b, 0)
	if !bytes.Equal(b, []byte{0xac, 2, 7}) {
		t.Errorf("Int changes its argument: %x", b)
	}
}

func TestP1_6_NumbersThereAndBack(t *testing.T) {
	for _, n := range edges() {
		b, _ := wire.PutInt(n)
		if back, size, e := wire.Int(b, 0); back != n || size != len(b) || e != api.OK {
			t.Errorf("Int(PutInt(%d)) = %d, %d, %d", n, back, size, e)
		}
		within := append(append([]byte{0x80, 9}, b...), 0x80, 7)
		if back, size, e := wire.Int(within, 2); back != n || size != len(b) || e != api.OK {
			t.Errorf("Int of %d within %x = %d, %d, %d", n, within, back, size, e)
		}
	}
}

func TestP1_7_OneForm(t *testing.T) {
	forms := map[int]string{}
	check := func(b []byte) {
		n, size, e := wire.Int(b, 0)
		if e != api.OK {
			return
		}
		form := string(b[:size])
		if was, there := forms[n]; there && was != form {
			t.Fatalf("%d is read from %x and from %x", n, was, form)
		}
		forms[n] = form
		if put, e := wire.PutInt(n); e != api.OK || string(put) != form {
			t.Fatalf("%d is read from %x, written as %x", n, form, put)
		}
	}
	eachString([]byte{0, 1, 2, 0x40, 0x7f, 0x80, 0x81, 0xff}, 5, check)
	eachString([]byte{0, 1, 0x80}, 10, check)
	eachString([]byte{0, 1, 0x40, 0x80}, 2, func(b []byte) { check(full(b...)) })
}

func TestP1_7_NoFront(t *testing.T) {
	for _, n := range edges() {
		b, _ := wire.PutInt(n)
		for k := range b {
			if m, _, e := wire.Int(b[:k], 0); e != api.ErrShort {
				t.Fatalf("the first %d bytes of %d are read as %d, %d", k, n, m, e)
			}
		}
	}
}

func TestP1_7_SizeRises(t *testing.T) {
	list, below := edges(), 0
	slices.Sort(list)
	for _, n := range list {
		if size := wire.Size(n); size < below {
			t.Errorf("Size(%d) = %d; of a lower number it is %d", n, size, below)
		}
		below = wire.Size(n)
		b, _ := wire.PutInt(n)
		if wire.Size(n) != len(b) || len(b) < 1 || len(b) > 9 {
			t.Errorf("Size(%d) = %d; it has %d bytes", n, wire.Size(n), len(b))
		}
	}
	for k := 1; k <= 8; k++ {
		if below, from := wire.Size(1<<(7*k)-1), wire.Size(1<<(7*k)); below != k || from != k+1 {
			t.Errorf("around 2^%d: %d bytes, then %d", 7*k, below, from)
		}
	}
}
