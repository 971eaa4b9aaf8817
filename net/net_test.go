package net_test

import (
	"fmt"
	"math"
	"strings"
	"testing"

	"synod/api"
	"synod/net"
)

// say is all of a list of answers, as one text.
func say(l ...any) string { return strings.TrimSuffix(fmt.Sprintln(l...), "\n") }

// is holds an answer against the one that the document asks.
func is(t *testing.T, have, want any) {
	t.Helper()
	if say(have) != say(want) {
		t.Errorf("have %v; want %v", have, want)
	}
}

// made is a network of so many nodes.
func made(t *testing.T, nodes int) *net.Net {
	t.Helper()
	n := net.New(nodes)
	if n == nil {
		t.Fatalf("New(%d) is nil", nodes)
	}
	return n
}

// laden is a network of three nodes with a mail from 1 to 2 for each text.
func laden(t *testing.T, texts ...string) *net.Net {
	t.Helper()
	n := made(t, 3)
	for _, s := range texts {
		send(t, n, 1, 2, s)
	}
	return n
}

// send sends a text, which the network has to take.
func send(t *testing.T, n *net.Net, from, to int, s string) {
	t.Helper()
	if !n.Send(from, to, []byte(s)) {
		t.Fatalf("%s isn't sent from %d to %d", s, from, to)
	}
}

// full is a network of two nodes that has no room.
func full(t *testing.T) *net.Net {
	t.Helper()
	n := made(t, 2)
	for range api.MaxMail {
		send(t, n, 1, 2, "a")
	}
	return n
}

// show is a mail as text: its Number, from where to where, its data, and ! if it is spoilt.
func show(m net.Mail) string {
	s := fmt.Sprintf("%d:%d%d:%s", m.Number, m.From, m.To, m.Data)
	if m.Spoilt {
		s += "!"
	}
	return s
}

// showAll are mails as text.
func showAll(mails []net.Mail) string {
	var l []string
	for _, m := range mails {
		l = append(l, show(m))
	}
	return strings.Join(l, " ")
}

// row holds the mails of a network against their text.
func row(t *testing.T, n *net.Net, want string) {
	t.Helper()
	l := n.List()
	if have := showAll(l); have != want {
		t.Errorf("have %s; want %s", have, want)
	}
	if n.Len() != len(l) {
		t.Errorf("Len is %d of %d", n.Len(), len(l))
	}
}

// takes takes a mail out and holds it against its text.
func takes(t *testing.T, n *net.Net, i int, want string) {
	t.Helper()
	m, ok := n.Take(i)
	if !ok || show(m) != want {
		t.Errorf("Take(%d): have %s, %t; want %s", i, show(m), ok, want)
	}
}

// nowhere are places that a row of so many mails hasn't.
func nowhere(mails int) []int {
	return []int{-1, -2, -mails - 1, mails, mails + 1, api.MaxMail, math.MinInt, math.MaxInt}
}

// The calls have the types that the chapter gives them.
var (
	_ func(int) *net.Net                           = net.New
	_ func(*net.Net, int, int, []byte) bool        = (*net.Net).Send
	_ func(*net.Net, int) (net.Mail, bool)         = (*net.Net).Take
	_ func(*net.Net, int) bool                     = (*net.Net).Drop
	_ func(*net.Net, int) bool                     = (*net.Net).Copy
	_ func(*net.Net, int, int) bool                = (*net.Net).Spoil
	_ func(*net.Net, int, int) bool                = (*net.Net).Move
	_ func(*net.Net, int, int, bool) bool          = (*net.Net).Link
	_ func(*net.Net, int, int) bool                = (*net.Net).Linked
	_ func(*net.Net) int                           = (*net.Net).Len
	_ func(*net.Net) []net.Mail                    = (*net.Net).List
	_ func(*net.Net, int) int                      = (*net.Net).Clear
	_ func(net.Mail) (int, int, int, []byte, bool) = func(m net.Mail) (int, int, int, []byte, bool) {
		return m.Number, m.From, m.To, m.Data, m.Spoilt
	}
)

// The chapter's examples, line by line.
func TestP14_Example(t *testing.T) {
	n := net.New(3)
	a, b, c, d, x := []byte("a"), []byte("b"), []byte("c"), []byte("d"), []byte("x")
	is(t, say(n.Send(1, 2, a), n.Send(2, 2, b), n.Send(1, 4, c), n.Send(3, 1, d), n.Len()), "true false false true 2")
	is(t, say(n.Copy(0), n.Spoil(0, 0), n.Spoil(0, 1), n.Spoil(1, 8)), "true true false false")
	row(t, n, "1:12:`! 2:31:d 3:12:a")
	is(t, n.Move(2, 0), true)
	takes(t, n, 0, "3:12:a")
	is(t, say(n.Take(2)), "{0 0 0 [] false} false")
	is(t, say(n.Take(-1)), "{0 0 0 [] false} false")
	is(t, say(n.Link(1, 2, false), n.Send(2, 1, x), n.Linked(2, 1), n.Linked(1, 1), n.Clear(1)), "true false false false 1")
	row(t, n, "1:12:`!")
}

func TestP14_1_EachNumber(t *testing.T) {
	for nodes := 1; nodes <= api.MaxNodes; nodes++ {
		n := made(t, nodes)
		row(t, n, "")
		for a := -1; a <= api.MaxNodes+2; a++ {
			for b := -1; b <= api.MaxNodes+2; b++ {
				if n.Linked(a, b) != (a != b && a >= 1 && b >= 1 && a <= nodes && b <= nodes) {
					t.Errorf("%d nodes: Linked(%d, %d) is %t", nodes, a, b, n.Linked(a, b))
				}
			}
		}
	}
}

func TestP14_1_WrongNumber(t *testing.T) {
	for _, nodes := range []int{0, -1, -api.MaxNodes, api.MaxNodes + 1, api.MaxNodes + 2, 100, api.MaxIndex, math.MinInt, math.MaxInt} {
		if net.New(nodes) != nil {
			t.Errorf("New(%d) is not nil", nodes)
		}
	}
}

// Networks know nothing of one another.
func TestP14_1_TwoNets(t *testing.T) {
	a, b := made(t, 3), made(t, 3)
	send(t, a, 1, 2, "a")
	is(t, a.Copy(0), true)
	is(t, a.Link(1, 2, false), true)
	row(t, b, "")
	is(t, say(b.Linked(1, 2), b.Linked(2, 1)), "true true")
	send(t, b, 1, 2, "b")
	row(t, b, "1:12:b")
	row(t, a, "1:12:a 2:12:a")
	is(t, b.Clear(2), 1)
	row(t, a, "1:12:a 2:12:a")
}

// Each number of nodes, and each two of the ids in and around it.
func TestP14_2_FromAndTo(t *testing.T) {
	ids := []int{-1, 0, 1, 2, 3, 4, 5, 6, 7, 8, 9, 100, api.MaxIndex, math.MinInt, math.MaxInt}
	for nodes := 1; nodes <= api.MaxNodes; nodes++ {
		n := made(t, nodes)
		var want []string
		for _, from := range ids {
			for _, to := range ids {
				may := from != to && from >= 1 && to >= 1 && from <= nodes && to <= nodes
				if may {
					want = append(want, fmt.Sprintf("%d:%d%d:x", len(want)+1, from, to))
				}
				if n.Send(from, to, []byte("x")) != may {
					t.Errorf("%d nodes: Send(%d, %d) is not %t", nodes, from, to, may)
				}
			}
		}
		row(t, n, strings.Join(want, " "))
	}
}

func TestP14_2_Data(t *testing.T) {
	n := made(t, 2)
	long := strings.Repeat("0123456789", 5000)
	var every []byte
	for i := range 256 {
		every = append(every, byte(i))
	}
	is(t, say(n.Send(1, 2, nil), n.Send(1, 2, []byte{}), n.Send(2, 1, []byte(long)), n.Send(1, 2, every), n.Send(1, 2, every)), "true true true true true")
	row(t, n, say("1:12: 2:12:", "3:21:"+long, "4:12:"+string(every), "5:12:"+string(every)))
}

// What is refused isn't counted.
func TestP14_2_Numbers(t *testing.T) {
	n := made(t, 3)
	is(t, say(n.Send(1, 1, nil), n.Send(0, 1, nil), n.Link(1, 2, false), n.Send(1, 2, nil), n.Copy(0)), "false false true false false")
	send(t, n, 1, 3, "a")
	is(t, say(n.Send(2, 1, nil), n.Send(3, 4, nil), n.Copy(1), n.Copy(-1)), "false false false false")
	send(t, n, 2, 3, "b")
	is(t, n.Copy(0), true)
	send(t, n, 3, 1, "c")
	row(t, n, "1:13:a 2:23:b 3:13:a 4:31:c")
}

// Numbers go on, whatever is on its way still.
func TestP14_2_NumbersGoOn(t *testing.T) {
	n := laden(t, "a", "b", "c")
	takes(t, n, 2, "3:12:c")
	send(t, n, 1, 2, "d")
	is(t, n.Drop(2), true)
	send(t, n, 1, 2, "e")
	is(t, say(n.Clear(2), n.Len()), "3 0")
	send(t, n, 1, 2, "f")
	is(t, say(n.Copy(0), n.Spoil(0, 0), n.Move(0, 1)), "true true true")
	row(t, n, "7:12:f 6:12:g!")
	is(t, say(n.Drop(0), n.Drop(0), n.Len()), "true true 0")
	send(t, n, 2, 1, "h")
	row(t, n, "8:21:h")
}

func TestP14_2_Cut(t *testing.T) {
	n := made(t, 3)
	is(t, n.Link(1, 3, false), true)
	is(t, say(n.Send(1, 3, nil), n.Send(3, 1, nil), n.Send(1, 2, nil), n.Send(3, 2, nil), n.Send(2, 3, nil)), "false false true true true")
	is(t, n.Link(3, 1, true), true)
	is(t, say(n.Send(1, 3, nil), n.Send(3, 1, nil)), "true true")
	row(t, n, "1:12: 2:32: 3:23: 4:13: 5:31:")
}

func TestP14_2_Full(t *testing.T) {
	n := full(t)
	for range 3 {
		is(t, say(n.Send(1, 2, nil), n.Send(2, 1, []byte("x")), n.Copy(0), n.Copy(api.MaxMail-1), n.Len()), say(false, false, false, false, api.MaxMail))
	}
	// Each way out makes room for one.
	ways := []func() bool{
		func() bool { _, ok := n.Take(7); return ok },
		func() bool { return n.Drop(api.MaxMail - 1) },
	}
	for i, way := range ways {
		is(t, say(way(), n.Send(2, 1, []byte("y")), n.Send(2, 1, nil), n.Len()), say(true, true, false, api.MaxMail))
		is(t, show(n.List()[api.MaxMail-1]), say(api.MaxMail+1+2*i)+":21:y")
		is(t, say(way(), n.Copy(0), n.Copy(0), n.Len()), say(true, true, false, api.MaxMail))
		is(t, show(n.List()[api.MaxMail-1]), say(api.MaxMail+2+2*i)+":12:a")
	}
	was := n.Len()
	gone := n.Clear(2)
	is(t, n.Len(), was-gone)
	for range gone {
		send(t, n, 2, 1, "z")
	}
	is(t, say(n.Send(2, 1, nil), n.Len()), say(false, api.MaxMail))
}

// A refused mail changes neither the row nor what is sent next.
func TestP14_2_RefusedWhereFull(t *testing.T) {
	n := full(t)
	was := showAll(n.List())
	is(t, say(n.Send(2, 1, []byte("x")), n.Copy(3)), "false false")
	row(t, n, was)
	is(t, n.Clear(2), api.MaxMail)
	send(t, n, 1, 2, "b")
	row(t, n, say(api.MaxMail+1)+":12:b")
}
