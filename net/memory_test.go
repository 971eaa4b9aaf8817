package net_test

import (
	"bytes"
	"runtime"
	"testing"
	"weak"

	"synod/net"
)

// scribble writes all over a list of bytes and its spare room, and behind it.
func scribble(b []byte) {
	for i := range b[:cap(b)] {
		b[:cap(b)][i] = 0xee
	}
	_ = append(b, 0xee, 0xee)
}

// scribbleMails does so with a list of mails, and with the data of each.
func scribbleMails(l []net.Mail) {
	for i := range l {
		scribble(l[i].Data)
	}
	x := net.Mail{Number: 99, From: 9, To: 9, Data: []byte("zz"), Spoilt: true}
	for i := range l[:cap(l)] {
		l[:cap(l)][i] = x
	}
	_ = append(l, x, x)
}

// roomy is the bytes of a text, with others behind their length.
func roomy(s string) []byte { return []byte(s + "behind it")[:len(s)] }

// What is sent is neither kept, nor changed by anything that is done to the mail.
func TestP14_5_SendKeepsNothing(t *testing.T) {
	for _, s := range []string{"", "a", "abcdefgh", "0123456789abcdef0123456789abcdef"} {
		n := made(t, 2)
		b := roomy(s)
		was := bytes.Clone(b[:cap(b)])
		is(t, say(n.Send(1, 2, b), n.Send(2, 1, b), n.Send(1, 1, b), n.Copy(0)), "true true false true")
		is(t, say(n.Spoil(0, 0), n.Spoil(2, 7)), say(s != "", s != ""))
		if m, ok := n.Take(1); !ok || string(m.Data) != s {
			t.Errorf("%s, %t", m.Data, ok)
		} else {
			scribble(m.Data)
		}
		if !bytes.Equal(b[:cap(b)], was) {
			t.Errorf("what was handed in is changed: %s", b[:cap(b)])
		}
		shown := showAll(n.List())
		scribble(b)
		row(t, n, shown)
	}
}

// What lies behind the length of what is sent is no part of it.
func TestP14_5_NothingBehindTheLength(t *testing.T) {
	n := made(t, 2)
	is(t, say(n.Send(1, 2, roomy("ab")), n.Spoil(0, 16), n.Copy(0)), "true false true")
	for _, m := range n.List() {
		is(t, string(m.Data), "ab")
		for _, x := range m.Data[:cap(m.Data)][2:] {
			is(t, x, 0)
		}
	}
}

// One list, sent several times: each mail has data of its own.
func TestP14_5_MailsShareNothing(t *testing.T) {
	n := made(t, 3)
	b := []byte("aaaa")
	is(t, say(n.Send(1, 2, b), n.Send(1, 3, b), n.Send(2, 3, b[:2]), n.Spoil(1, 1)), "true true true true")
	row(t, n, "1:12:aaaa 2:13:caaa! 3:23:aa")
	is(t, say(n.Spoil(0, 8), n.Spoil(2, 0)), "true true")
	row(t, n, "1:12:a`aa! 2:13:caaa! 3:23:`a!")
}

// A copy's data is a copy: neither shows what becomes of the other one.
func TestP14_5_CopyIsACopy(t *testing.T) {
	for _, spoilt := range []int{0, 1} {
		n := laden(t, "abcd")
		is(t, say(n.Copy(0), n.Spoil(spoilt, 0)), "true true")
		m, _ := n.Take(spoilt)
		is(t, string(m.Data), "`bcd")
		is(t, string(n.List()[0].Data), "abcd")
		scribble(m.Data)
		is(t, string(n.List()[0].Data), "abcd")
		other, _ := n.Take(0)
		scribble(m.Data)
		is(t, string(other.Data), "abcd")
	}
}

// What is taken is the taker's alone, and stays what it is.
func TestP14_5_TakenIsNew(t *testing.T) {
	n := laden(t, "ab", "cd", "ef")
	listed := n.List()
	m, _ := n.Take(1)
	scribble(m.Data)
	is(t, showAll(listed), "1:12:ab 2:12:cd 3:12:ef")
	row(t, n, "1:12:ab 3:12:ef")
	m, _ = n.Take(0)
	for range 40 {
		send(t, n, 1, 2, "xy")
	}
	is(t, say(n.Spoil(0, 0), n.Copy(0), n.Move(0, 5), n.Drop(0)), "true true true true")
	is(t, show(m), "1:12:ab")
}

// Whatever is written into a list that was answered, neither the network shows it nor another answer, at any length of the row.
func TestP14_5_ListIsNew(t *testing.T) {
	n := made(t, 2)
	for i := range 20 {
		was := showAll(n.List())
		kept, other := n.List(), n.List()
		scribbleMails(other)
		is(t, showAll(kept), was)
		row(t, n, was)
		send(t, n, 1, 2, "abc"[:i%4])
		is(t, showAll(kept), was)
		grown := showAll(n.List())
		scribbleMails(kept)
		row(t, n, grown)
		if m, ok := n.Take(0); i%3 == 0 && ok {
			scribble(m.Data)
			send(t, n, 2, 1, "new")
		}
	}
}

// The lists within one answer share nothing with one another.
func TestP14_5_ListsWithinAnAnswer(t *testing.T) {
	n := laden(t, "aa", "bb", "")
	is(t, say(n.Copy(0), n.Copy(0), n.Copy(2)), "true true true")
	l := n.List()
	for i := range l {
		want := showAll(l[i+1:])
		scribble(l[i].Data)
		is(t, showAll(l[i+1:]), want)
	}
}

// An answer stays what it is, whatever is done later.
func TestP14_5_AnswersStay(t *testing.T) {
	n := laden(t, "ab", "cd", "ef", "gh")
	l := n.List()
	was := showAll(l)
	is(t, say(n.Spoil(0, 3), n.Move(0, 2), n.Drop(1), n.Copy(1), n.Send(2, 1, []byte("x")), n.Clear(2)), "true true true true true 4")
	send(t, n, 1, 3, "y")
	is(t, showAll(l), was)
}

// Behind an answer's length there is nothing of what was in the row.
func TestP14_5_SpareRoomTellsNothing(t *testing.T) {
	n := laden(t, letters(9)...)
	for n.Len() > 0 {
		is(t, n.Drop(n.Len()/2), true)
		l := n.List()
		for _, m := range l[len(l):cap(l)] {
			is(t, say(m), say(net.Mail{}))
		}
	}
}

// watched is a mail's memory, as far as anybody keeps it.
func watched(m net.Mail) weak.Pointer[byte] { return weak.Make(&m.Data[0]) }

// The network keeps nothing of a mail that was taken, nor of what it answered.
func TestP14_5_KeptNoLonger(t *testing.T) {
	n := laden(t)
	long := bytes.Repeat([]byte("0123456789"), 100)
	for range 4 {
		n.Send(1, 2, long)
	}
	var watch []weak.Pointer[byte]
	for _, i := range []int{3, 1} {
		m, _ := n.Take(i)
		watch = append(watch, watched(m))
	}
	for _, m := range n.List() {
		watch = append(watch, watched(m))
	}
	runtime.GC()
	for i, w := range watch {
		if w.Value() != nil {
			t.Errorf("%d is kept still", i)
		}
	}
	is(t, n.Len(), 2)
	runtime.KeepAlive(n)
}
