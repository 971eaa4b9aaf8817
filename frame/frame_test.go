package frame_test

import (
	"bytes"
	"encoding/binary"
	"hash/crc32"
	"math"
	"math/rand/v2"
	"slices"
	"testing"

	"synod/api"
	"synod/frame"
)

var castagnoli = crc32.MakeTable(crc32.Castagnoli)

// laid is a frame by the library's means: the length that stands in it may be another one than the payload's.
func laid(length uint32, payload []byte) []byte {
	b := binary.LittleEndian.AppendUint32(nil, length)
	sum := crc32.Update(crc32.Checksum(b, castagnoli), castagnoli, payload)
	return append(binary.LittleEndian.AppendUint32(b, sum), payload...)
}

// right is the frame of a text.
func right(s string) []byte { return laid(uint32(len(s)), []byte(s)) }

// join is bytes one behind the other.
func join(pieces ...[]byte) []byte { return slices.Concat(pieces...) }

// turned is a copy with some bits of one byte turned.
func turned(b []byte, at int, bits byte) []byte {
	c := bytes.Clone(b)
	c[at] ^= bits
	return c
}

// anyBytes are n bytes of any kind.
func anyBytes(pick *rand.Rand, n int) []byte {
	b := make([]byte, n)
	for i := range b {
		b[i] = byte(pick.IntN(256))
	}
	return b
}

// brief keeps a fault's report readable.
func brief(b []byte) []byte { return b[:min(len(b), 24)] }

func TestP2_1_Sum(t *testing.T) {
	for _, x := range []struct {
		s    string
		want uint32
	}{
		{"", 0},
		{"123456789", 0xe3069283},
		{"\x00\x00\x00\x00", 0x48674bc7},
		{"a", 0xc1d04330},
		{string(make([]byte, 32)), 0x8a9136aa},
		{string(bytes.Repeat([]byte{0xff}, 32)), 0x62a8ab43},
	} {
		if sum := frame.Sum([]byte(x.s)); sum != x.want {
			t.Errorf("Sum(%x) = %x; not %x", x.s, sum, x.want)
		}
	}
	if sum := frame.Sum(nil); sum != 0 {
		t.Errorf("Sum(nil) = %x", sum)
	}
}

func TestP2_1_SumAsTheLibrary(t *testing.T) {
	for c := range 256 {
		b := []byte{byte(c)}
		if sum, want := frame.Sum(b), crc32.Checksum(b, castagnoli); sum != want {
			t.Errorf("Sum(%x) = %x; not %x", b, sum, want)
		}
	}
	pick := rand.New(rand.NewPCG(2, 1))
	for n := range 600 {
		b := anyBytes(pick, n)
		if sum, want := frame.Sum(b), crc32.Checksum(b, castagnoli); sum != want {
			t.Errorf("Sum(%x) = %x; not %x", b, sum, want)
		}
	}
	long := anyBytes(pick, 3*api.MaxFrame)
	if sum, want := frame.Sum(long), crc32.Checksum(long, castagnoli); sum != want {
		t.Errorf("Sum of %d bytes = %x; not %x", len(long), sum, want)
	}
}

func TestP2_1_Put(t *testing.T) {
	for _, x := range []struct {
		payload, want []byte
	}{
		{nil, []byte{0, 0, 0, 0, 0xc7, 0x4b, 0x67, 0x48}},
		{[]byte{}, []byte{0, 0, 0, 0, 0xc7, 0x4b, 0x67, 0x48}},
		{[]byte("ab"), right("ab")},
		{make([]byte, 255), laid(255, make([]byte, 255))},
		{make([]byte, 256), laid(256, make([]byte, 256))},
		{make([]byte, 0x10203), laid(0x10203, make([]byte, 0x10203))},
		{make([]byte, api.MaxFrame-1), laid(api.MaxFrame-1, make([]byte, api.MaxFrame-1))},
		{make([]byte, api.MaxFrame), laid(api.MaxFrame, make([]byte, api.MaxFrame))},
	} {
		if b, e := frame.Put(x.payload); e != api.OK || !bytes.Equal(b, x.want) {
			t.Errorf("Put of %d bytes = %x (%d bytes), %d", len(x.payload), brief(b), len(b), e)
		}
	}
	b, _ := frame.Put(make([]byte, 0x10203))
	if !bytes.Equal(b[:4], []byte{3, 2, 1, 0}) {
		t.Errorf("the head begins with %x", b[:4])
	}
}

func TestP2_1_PutTooLong(t *testing.T) {
	for _, n := range []int{api.MaxFrame + 1, api.MaxFrame + 2, 2 * api.MaxFrame, 1 << 24} {
		if b, e := frame.Put(make([]byte, n)); e != api.ErrLong || len(b) != 0 {
			t.Errorf("Put of %d bytes = %x, %d", n, brief(b), e)
		}
	}
}

func TestP2_2_Get(t *testing.T) {
	most := bytes.Repeat([]byte("m"), api.MaxFrame)
	for i, x := range []struct {
		b       []byte
		at      int
		payload string
	}{
		{right("ab"), 0, "ab"},
		{join(right("ab"), []byte("more")), 0, "ab"},
		{join([]byte{7}, right("ab")), 1, "ab"},
		{join(right("ab"), right("cde")), 10, "cde"},
		{right(""), 0, ""},
		{join(right("a"), right("")), 9, ""},
		{laid(api.MaxFrame, most), 0, string(most)},
		{join(right("x"), laid(api.MaxFrame, most), right("y")), 9, string(most)},
	} {
		p, n, e := frame.Get(x.b, x.at)
		if string(p) != x.payload || n != 8+len(x.payload) || e != api.OK {
			t.Errorf("%d: Get(.., %d) = %x, %d, %d", i, x.at, brief(p), n, e)
		}
	}
}

func TestP2_2_NoPlace(t *testing.T) {
	b := right("ab")
	for _, at := range []int{-1, -4, -10, math.MinInt, math.MinInt + 1, 7, 8, 9, 10, 11, 12, 100, math.MaxInt, math.MaxInt - 3} {
		if p, n, e := frame.Get(b, at); len(p) != 0 || n != 0 || e != api.ErrShort {
			t.Errorf("Get(%x, %d) = %x, %d, %d", b, at, p, n, e)
		}
	}
	for _, at := range []int{-1, 0, 1, math.MinInt, math.MaxInt} {
		if p, n, e := frame.Get(nil, at); len(p) != 0 || n != 0 || e != api.ErrShort {
			t.Errorf("Get(nil, %d) = %x, %d, %d", at, p, n, e)
		}
	}
}

// wrongFrame is bytes that begin with no frame, and the error that is to be told of them.
type wrongFrame struct {
	b []byte
	e api.Errno
}

func wrongFrames() []wrongFrame {
	ab, over := right("ab"), laid(api.MaxFrame+1, make([]byte, api.MaxFrame+1))
	return []wrongFrame{
		{nil, api.ErrShort},
		{[]byte{0}, api.ErrShort},
		{[]byte{0xff, 0xff, 0xff}, api.ErrShort},
		// The length alone is there.
		{[]byte{0, 0, 0, 0}, api.ErrShort},
		{[]byte{0, 0, 0x10, 0}, api.ErrShort},
		{[]byte{1, 0, 0x10, 0}, api.ErrLong},
		{[]byte{0, 0, 0, 1}, api.ErrLong},
		{[]byte{0, 0, 0x20, 0}, api.ErrLong},
		{[]byte{0xff, 0xff, 0xff, 0x7f}, api.ErrLong},
		{[]byte{0, 0, 0, 0x80}, api.ErrLong},
		{[]byte{0xff, 0xff, 0xff, 0xff}, api.ErrLong},
		{[]byte{0xfe, 0xff, 0xff, 0xff, 1, 2, 3, 4}, api.ErrLong},
		// Too long goes ahead of not whole and of another sum.
		{over, api.ErrLong},
		{over[:len(over)-1], api.ErrLong},
		{turned(over, 4, 1), api.ErrLong},
		{turned(over, 4, 1)[:40], api.ErrLong},
		// Not whole goes ahead of another sum.
		{ab[:4], api.ErrShort},
		{ab[:7], api.ErrShort},
		{ab[:8], api.ErrShort},
		{ab[:9], api.ErrShort},
		{turned(ab, 4, 1)[:9], api.ErrShort},
		{right("")[:7], api.ErrShort},
		{laid(api.MaxFrame, make([]byte, api.MaxFrame-1)), api.ErrShort},
		// Another sum.
		{turned(ab, 4, 1), api.ErrSum},
		{turned(ab, 7, 0x80), api.ErrSum},
		{turned(ab, 9, 4), api.ErrSum},
		{turned(right(""), 5, 0x10), api.ErrSum},
		{laid(1, []byte("ab")), api.ErrSum},
		{make([]byte, 8), api.ErrSum},
		{turned(laid(api.MaxFrame, make([]byte, api.MaxFrame)), api.MaxFrame+7, 1), api.ErrSum},
		// The sum is of the payload alone, of the length alone, or has its high byte first.
		{sumOnly([]byte("ab"), []byte("ab")), api.ErrSum},
		{sumOnly([]byte{2, 0, 0, 0}, []byte("ab")), api.ErrSum},
		{join(ab[:4], []byte{ab[7], ab[6], ab[5], ab[4]}, ab[8:]), api.ErrSum},
	}
}

// sumOnly is a frame of the payload whose sum is that of other bytes.
func sumOnly(summed, payload []byte) []byte {
	b := binary.LittleEndian.AppendUint32(nil, uint32(len(payload)))
	return append(binary.LittleEndian.AppendUint32(b, crc32.Checksum(summed, castagnoli)), payload...)
}

func TestP2_2_WrongFrame(t *testing.T) {
	ahead := right("ahead")
	for i, x := range wrongFrames() {
		if p, n, e := frame.Get(x.b, 0); len(p) != 0 || n != 0 || e != x.e {
			t.Errorf("%d: Get(%x, 0) = %x, %d, %d; not %d", i, brief(x.b), brief(p), n, e, x.e)
		}
		if p, n, e := frame.Get(join(ahead, x.b), len(ahead)); len(p) != 0 || n != 0 || e != x.e {
			t.Errorf("%d: Get(.. %x, %d) = %x, %d, %d; not %d", i, brief(x.b), len(ahead), brief(p), n, e, x.e)
		}
	}
}

func TestP2_3_One(t *testing.T) {
	most := laid(api.MaxFrame, bytes.Repeat([]byte("m"), api.MaxFrame))
	for i, x := range [][]byte{right(""), right("ab"), right("a longer one"), most} {
		if p, e := frame.One(x); e != api.OK || !bytes.Equal(p, x[8:]) {
			t.Errorf("%d: One(%x) = %x, %d", i, brief(x), brief(p), e)
		}
	}
}

func TestP2_3_WrongOne(t *testing.T) {
	for i, x := range wrongFrames() {
		if p, e := frame.One(x.b); len(p) != 0 || e != x.e {
			t.Errorf("%d: One(%x) = %x, %d; not %d", i, brief(x.b), brief(p), e, x.e)
		}
	}
	for i, x := range []wrongFrame{
		{join(right("ab"), []byte{0}), api.ErrForm},
		{join(right(""), []byte{0}), api.ErrForm},
		{join(right("ab"), right("ab")), api.ErrForm},
		{join(right("ab"), []byte{0xff, 0xff, 0xff, 0xff}), api.ErrForm},
		{join(right("ab"), make([]byte, 100)), api.ErrForm},
		// Get's error goes ahead of what stands behind.
		{join(turned(right("ab"), 8, 1), []byte{0}), api.ErrSum},
		{join([]byte{0xff, 0xff, 0xff, 0x7f}, make([]byte, 100)), api.ErrLong},
	} {
		if p, e := frame.One(x.b); len(p) != 0 || e != x.e {
			t.Errorf("behind, %d: One(%x) = %x, %d; not %d", i, brief(x.b), brief(p), e, x.e)
		}
	}
}
