package net_test

import (
	"bytes"
	"fmt"
	"math/bits"
	"math/rand/v2"
	"testing"

	"synod/api"
	"synod/net"
)

// sent is a mail as it was sent.
type sent struct {
	from, to int
	data     []byte
}

// origins are all mails that were sent, and what is known of each Number.
type origins struct {
	t   *testing.T
	all []sent
	by  map[int]int // which of them a Number's mail was
	top int         // the greatest Number that was seen
}

// unlike tells in how many bits two lists differ; -1, if one of them is longer.
func unlike(a, b []byte) int {
	if len(a) != len(b) {
		return -1
	}
	n := 0
	for i := range a {
		n += bits.OnesCount8(a[i] ^ b[i])
	}
	return n
}

// find tells which one that was sent a mail was; -1, if it was none.
func (o *origins) find(m net.Mail) int {
	turned := 0
	if m.Spoilt {
		turned = 1
	}
	for i, s := range o.all {
		if s.from == m.From && s.to == m.To && unlike(s.data, m.Data) == turned {
			return i
		}
	}
	return -1
}

// seen looks at a mail: it was sent, as it is but for one bit; its Number is its own.
func (o *origins) seen(m net.Mail) {
	o.t.Helper()
	at := o.find(m)
	if at < 0 {
		o.t.Fatalf("%v comes from nowhere", m)
	}
	if was, ok := o.by[m.Number]; ok && was != at {
		o.t.Fatalf("%d was another one: %v", m.Number, m)
	} else if !ok && m.Number <= o.top {
		o.t.Fatalf("%v is new, but %d was there", m, o.top)
	}
	o.by[m.Number] = at
	o.top = max(o.top, m.Number)
}

// look looks at the whole row.
func (o *origins) look(n *net.Net) {
	o.t.Helper()
	numbers := map[int]int{}
	l := n.List()
	for _, m := range l {
		numbers[m.Number]++
	}
	if len(numbers) != len(l) || n.Len() != len(l) {
		o.t.Fatalf("two mails have one Number: %v", l)
	}
	for _, m := range l {
		o.seen(m)
	}
}

// coded is data in which any two numbers differ by 3 bits at least, so that one turned bit doesn't make another one of it.
func coded(i int) []byte { return bytes.Repeat([]byte{byte(i), byte(i >> 8)}, 3) }

// anything does any one call, and looks at the mail that it took.
func anything(r *rand.Rand, n *net.Net, o *origins) {
	i, j := r.IntN(n.Len()+3)-1, r.IntN(n.Len()+3)-1
	a, b := r.IntN(6), r.IntN(6)
	switch r.IntN(12) {
	case 0, 1, 2, 3:
		data := coded(len(o.all))
		if n.Send(a, b, data) {
			o.all = append(o.all, sent{a, b, data})
		}
	case 4:
		if m, ok := n.Take(i); ok {
			o.seen(m)
		}
	case 5:
		n.Drop(i)
	case 6, 7:
		n.Copy(i)
	case 8:
		n.Spoil(i, r.IntN(50)-1)
	case 9:
		n.Move(i, j)
	case 10:
		n.Link(a, b, r.IntN(3) > 0)
	default:
		if r.IntN(9) == 0 {
			n.Clear(a)
		}
	}
}

func TestP14_6_NothingFromNowhere(t *testing.T) {
	r := rand.New(rand.NewPCG(14, 6))
	mails, spoilt := 0, 0
	for range 40 {
		n := made(t, 4)
		o := &origins{t, nil, map[int]int{}, 0}
		for range 300 {
			anything(r, n, o)
			o.look(n)
		}
		for _, m := range n.List() {
			mails++
			if m.Spoilt {
				spoilt++
			}
		}
	}
	if mails < 300 || spoilt < 50 {
		t.Errorf("%d mails alone, %d of them spoilt", mails, spoilt)
	}
}

// Numbers rise by one from mail to mail, sent or copied, while others come and go.
func TestP14_6_NumbersRise(t *testing.T) {
	n := made(t, 2)
	last := 0
	for i := range 3 * api.MaxMail {
		if i%3 == 2 && n.Copy(0) || n.Send(1, 2, nil) {
			last++
		}
		l := n.Len()
		if l > 40 {
			n.Drop(i % l)
			n.Move(0, l-2)
		}
		if i%500 == 499 {
			n.Clear(2)
		}
		if i%10 == 0 && n.Len() > 0 {
			is(t, n.Move(0, n.Len()-1), true)
		}
		greatest := 0
		for _, m := range n.List() {
			greatest = max(greatest, m.Number)
		}
		if n.Len() > 0 && greatest > last {
			t.Fatalf("Number %d of %d mails", greatest, last)
		}
	}
	n.Clear(2)
	send(t, n, 2, 1, "x")
	row(t, n, fmt.Sprintf("%d:21:x", last+1))
}

// Sent and taken from the front, by turns: what comes is what went, in its order.
func TestP14_7_InOrder(t *testing.T) {
	r := rand.New(rand.NewPCG(14, 7))
	for _, often := range []int{3, 5, 6, 8} {
		n := made(t, api.MaxNodes)
		var way []sent
		number, taken := 0, 0
		for range 6000 {
			a, b := r.IntN(api.MaxNodes+2), r.IntN(api.MaxNodes+2)
			if r.IntN(11) < often {
				if data := coded(number); n.Send(a, b, data) {
					way = append(way, sent{a, b, data})
					number++
				}
			} else if m, ok := n.Take(0); ok {
				taken++
				is(t, say(m), say(net.Mail{Number: taken, From: way[0].from, To: way[0].to, Data: way[0].data}))
				way = way[1:]
			} else {
				is(t, len(way), 0)
			}
			is(t, n.Len(), len(way))
		}
		if taken < 500 {
			t.Errorf("%d taken alone", taken)
		}
	}
}

// So it is where the row is filled and emptied as a whole, with links that are cut meanwhile.
func TestP14_7_FilledAndEmptied(t *testing.T) {
	n := made(t, 2)
	number := 0
	for range 3 {
		for n.Send(1, 2, coded(number)) {
			number++
		}
		is(t, say(n.Link(1, 2, false), n.Len()), say(true, api.MaxMail))
		for i := range api.MaxMail {
			takes(t, n, 0, show(net.Mail{Number: number - api.MaxMail + i + 1, From: 1, To: 2, Data: coded(number - api.MaxMail + i)}))
		}
		is(t, say(n.Len(), n.Link(1, 2, true)), "0 true")
	}
}
