package wire_test

import (
	"bytes"
	"fmt"
	"math/rand/v2"
	"testing"

	"synod/api"
	"synod/wire"
)

// thing is one of what a writer may be told: its kind is one of the letters i, b, y, t.
type thing struct {
	kind byte
	n    int
	b    []byte
	most int
}

func (x thing) String() string { return fmt.Sprintf("%c %d %x", x.kind, x.n, x.b) }

func (x thing) put(w *wire.Writer) {
	switch x.kind {
	case 'i':
		w.Int(x.n)
	case 'b':
		w.Bool(x.n == 1)
	case 'y':
		w.Bytes(x.b, x.most)
	case 't':
		w.Text(string(x.b), x.most)
	}
}

func read(r *wire.Reader, kind byte, most int) thing {
	x := thing{kind: kind, most: most}
	switch kind {
	case 'i':
		x.n = r.Int()
	case 'b':
		if r.Bool() {
			x.n = 1
		}
	case 'y':
		x.b = r.Bytes(most)
	case 't':
		x.b = []byte(r.Text(most))
	}
	return x
}

func anyThing(pick *rand.Rand) thing {
	x := thing{kind: "ibyt"[pick.IntN(4)]}
	switch x.kind {
	case 'i':
		x.n = pick.IntN(1<<62+1) >> pick.IntN(63)
	case 'b':
		x.n = pick.IntN(2)
	default:
		x.b = make([]byte, pick.IntN(1<<pick.IntN(9)))
		for i := range x.b {
			x.b[i] = byte(pick.IntN(256))
		}
		x.most = len(x.b) + pick.IntN(2)
	}
	return x
}

func TestP1_6_WrittenThenRead(t *testing.T) {
	pick := rand.New(rand.NewPCG(1, 6))
	for round := range 2000 {
		var things []thing
		w := wire.NewWriter()
		for range pick.IntN(12) {
			x := anyThing(pick)
			things = append(things, x)
			x.put(w)
		}
		b, e := w.Done()
		if e != api.OK {
			t.Fatalf("round %d: %d of %v", round, e, things)
		}
		r := wire.NewReader(b)
		for i, x := range things {
			got := read(r, x.kind, x.most+pick.IntN(2))
			if got.n != x.n || !bytes.Equal(got.b, x.b) {
				t.Fatalf("round %d, thing %d: %v; not %v", round, i, got, x)
			}
		}
		if r.Left() != 0 || r.At() != len(b) || r.Done() != api.OK {
			t.Fatalf("round %d: left %d, at %d, %d", round, r.Left(), r.At(), r.Done())
		}
	}
}

func TestP1_6_ReadThenWritten(t *testing.T) {
	whole := 0
	check := func(b []byte, kinds []byte) {
		r, w := wire.NewReader(b), wire.NewWriter()
		for _, kind := range kinds {
			read(r, kind, 3).put(w)
		}
		if r.Done() != api.OK {
			return
		}
		whole++
		if again, e := w.Done(); e != api.OK || !bytes.Equal(again, b) {
			t.Fatalf("%x, read as %s, is written as %x, %d", b, kinds, again, e)
		}
	}
	eachString([]byte("ibyt"), 3, func(kinds []byte) {
		eachString([]byte{0, 1, 2, 3, 0x7f, 0x80, 0x81}, 5, func(b []byte) { check(b, kinds) })
	})
	if whole == 0 {
		t.Error("none was read up to its end")
	}
}
