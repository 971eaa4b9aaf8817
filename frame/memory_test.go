package frame_test

import (
	"bytes"
	"slices"
	"testing"

	"synod/api"
	"synod/frame"
)

// scribble writes all over a list and its spare room.
func scribble(b []byte) {
	for i := range b[:cap(b)] {
		b[:cap(b)][i] = 0xee
	}
}

// roomy is a copy with other bytes behind its length.
func roomy(b, behind []byte) []byte { return join(b, behind)[:len(b)] }

func TestP2_6_ArgumentsStay(t *testing.T) {
	for i, x := range rows() {
		b := roomy(x.b, []byte("behind it"))
		whole := b[:len(b)+9]
		was := bytes.Clone(whole)
		frame.Sum(b)
		frame.Put(b)
		frame.Get(b, 0)
		frame.One(b)
		frame.All(b)
		walk(frame.Each(b))
		frame.Join([][]byte{b, b[:len(b)/2]})
		if !bytes.Equal(whole, was) {
			t.Errorf("%d: %x was changed", i, brief(was))
		}
	}
	a, b := []byte("a"), []byte("b")
	list := [][]byte{a, nil, b, []byte("not asked for")}
	frame.Join(list[:3])
	if !slices.Equal(texts(list), []string{"a", "", "b", "not asked for"}) {
		t.Errorf("the list was changed: %s", list)
	}
}

// What lies behind the length would make each of these a whole frame, or a payload that is too long.
func TestP2_6_NothingBehindTheLength(t *testing.T) {
	b := join(right("a"), right("bc"))
	for n := range b {
		front, alone := b[:n], bytes.Clone(b[:n])
		p, count, e := frame.All(front)
		q, other, f := frame.All(alone)
		if !slices.Equal(texts(p), texts(q)) || count != other || e != f {
			t.Errorf("All of %d bytes: %s, %d, %d", n, p, count, e)
		}
		if got, want := walk(frame.Each(front)), walk(frame.Each(alone)); !slices.Equal(got, want) {
			t.Errorf("Each of %d bytes: %v", n, got)
		}
		for at := range n + 2 {
			p, size, e := frame.Get(front, at)
			q, other, f := frame.Get(alone, at)
			if !bytes.Equal(p, q) || size != other || e != f {
				t.Errorf("Get of %d bytes at %d: %s, %d, %d", n, at, p, size, e)
			}
		}
		if got, want := frame.Sum(front), frame.Sum(alone); got != want {
			t.Errorf("Sum of %d bytes: %x", n, got)
		}
	}
	if p, e := frame.One(roomy(right("ab"), []byte{0})); string(p) != "ab" || e != api.OK {
		t.Errorf("One: %s, %d", p, e)
	}
	if b, e := frame.Put(make([]byte, 2, 2*api.MaxFrame)); len(b) != 10 || e != api.OK {
		t.Errorf("Put: %x, %d", b, e)
	}
	if b, e := frame.Join([][]byte{make([]byte, 2, 2*api.MaxFrame), make([]byte, api.MaxFrame+1)}[:1]); len(b) != 10 || e != api.OK {
		t.Errorf("Join: %x, %d", b, e)
	}
}

func TestP2_6_NewMemory(t *testing.T) {
	payload := roomy([]byte("ab"), []byte("spare"))
	b, _ := frame.Put(payload)
	c, _ := frame.Put(payload)
	d, _ := frame.Join([][]byte{payload})
	scribble(b)
	if !bytes.Equal(c, right("ab")) || !bytes.Equal(d, right("ab")) || string(payload[:7]) != "abspare" {
		t.Errorf("behind Put: %x, %x, %s", c, d, payload[:7])
	}
	scribble(d)
	if !bytes.Equal(c, right("ab")) || string(payload[:7]) != "abspare" {
		t.Errorf("behind Join: %x, %s", c, payload[:7])
	}
	whole := roomy(right("ab"), []byte("spare"))
	p, _, _ := frame.Get(whole, 0)
	q, _ := frame.One(whole)
	scribble(p)
	if string(q) != "ab" || !bytes.Equal(whole[:15], join(right("ab"), []byte("spare"))) {
		t.Errorf("behind Get: %s, %x", q, whole[:15])
	}
	scribble(q)
	if !bytes.Equal(whole[:15], join(right("ab"), []byte("spare"))) {
		t.Errorf("behind One: %x", whole[:15])
	}
}

func TestP2_6_AllIsNewMemory(t *testing.T) {
	want := []string{"a", "bcd", "", "efghijklm"}
	b := join(right("a"), right("bcd"), right(""), right("efghijklm"))
	was := bytes.Clone(b)
	for i := range want {
		l, _, _ := frame.All(b)
		m, _, _ := frame.All(b)
		scribble(l[i])
		for k, p := range l {
			if k != i && string(p) != want[k] {
				t.Errorf("payload %d shows what was written into payload %d: %s", k, i, p)
			}
		}
		l = l[:cap(l)]
		for k := range l {
			l[k] = []byte("other")
		}
		if !slices.Equal(texts(m), want) || !bytes.Equal(b, was) {
			t.Errorf("payload %d written over: %s, %x", i, m, b)
		}
	}
}

func TestP2_6_EachKeepsACopy(t *testing.T) {
	want := []seen{{0, "a"}, {9, "bcd"}, {20, ""}}
	b := roomy(join(right("a"), right("bcd"), right("")), []byte("spare"))
	frames := frame.Each(b)
	scribble(b)
	if got := walk(frames); !slices.Equal(got, want) {
		t.Errorf("behind a change of what was handed in: %v", got)
	}
	var kept [][]byte
	for _, p := range frames {
		kept = append(kept, p)
		scribble(p)
	}
	if got := walk(frames); !slices.Equal(got, want) {
		t.Errorf("behind a change of what was told: %v", got)
	}
	next := [][]byte{}
	for _, p := range frames {
		next = append(next, p)
	}
	for _, p := range kept {
		scribble(p)
	}
	scribble(next[0])
	if string(next[1]) != "bcd" || string(next[2]) != "" {
		t.Errorf("two payloads share memory: %s", next)
	}
}
