package net_test

import (
	"math"
	"testing"

	"synod/api"
	"synod/net"
)

// matrix is which two of the nodes 1 to 7 are linked, as text.
func matrix(n *net.Net) (s string) {
	for a := 1; a <= api.MaxNodes; a++ {
		for b := 1; b <= api.MaxNodes; b++ {
			if n.Linked(a, b) {
				s += "1"
			} else {
				s += "0"
			}
		}
		s += " "
	}
	return s
}

// Each two nodes are cut, and linked again: both ways, and no others.
func TestP14_4_EachLink(t *testing.T) {
	for nodes := 2; nodes <= api.MaxNodes; nodes++ {
		n := made(t, nodes)
		whole := matrix(n)
		for a := 1; a <= nodes; a++ {
			for b := 1; b <= nodes; b++ {
				if a == b {
					continue
				}
				is(t, n.Link(a, b, false), true)
				want := []byte(whole)
				want[(a-1)*(api.MaxNodes+1)+b-1] = '0'
				want[(b-1)*(api.MaxNodes+1)+a-1] = '0'
				is(t, matrix(n), string(want))
				is(t, say(n.Send(a, b, nil), n.Send(b, a, nil)), "false false")
				is(t, n.Link(b, a, true), true)
				is(t, matrix(n), whole)
			}
		}
	}
}

// From now on they are linked just if up, however often that is said.
func TestP14_4_LinkAgain(t *testing.T) {
	n := made(t, 3)
	for _, up := range []bool{true, true, false, false, true, false, true, true, false} {
		is(t, say(n.Link(2, 3, up), n.Linked(2, 3), n.Linked(3, 2), n.Linked(1, 2), n.Linked(1, 3)), say(true, up, up, true, true))
	}
}

// All links are cut, one by one, and come back in another order.
func TestP14_4_AllCut(t *testing.T) {
	n := made(t, 4)
	whole := matrix(n)
	for a := 1; a <= 4; a++ {
		for b := a + 1; b <= 4; b++ {
			is(t, n.Link(b, a, false), true)
		}
	}
	is(t, matrix(n), matrix(made(t, 1)))
	for b := 4; b >= 1; b-- {
		for a := 1; a < b; a++ {
			is(t, n.Link(a, b, true), true)
		}
	}
	is(t, matrix(n), whole)
}

func TestP14_4_NotTwoNodes(t *testing.T) {
	for nodes := 1; nodes <= api.MaxNodes; nodes++ {
		n := made(t, nodes)
		whole := matrix(n)
		wrong := []int{-1, 0, nodes + 1, nodes + 2, api.MaxNodes + 1, 64, api.MaxIndex, math.MinInt, math.MaxInt}
		for _, up := range []bool{true, false} {
			for id := 1; id <= nodes; id++ {
				is(t, say(n.Link(id, id, up), n.Linked(id, id)), "false false")
				for _, x := range wrong {
					is(t, say(n.Link(id, x, up), n.Link(x, id, up), n.Link(x, x, up)), "false false false")
					is(t, say(n.Linked(id, x), n.Linked(x, id), n.Linked(x, x)), "false false false")
				}
			}
			is(t, matrix(n), whole)
		}
	}
}

// Mail that is on its way stays, and may be taken, copied, spoilt and moved over a link that is cut.
func TestP14_4_MailStays(t *testing.T) {
	n := laden(t, "a", "b", "c")
	is(t, n.Link(2, 1, false), true)
	row(t, n, "1:12:a 2:12:b 3:12:c")
	is(t, say(n.Copy(0), n.Spoil(1, 0), n.Move(2, 0)), "true true true")
	row(t, n, "3:12:c 1:12:a 2:12:c! 4:12:a")
	takes(t, n, 1, "1:12:a")
	is(t, n.Link(2, 1, true), true)
	row(t, n, "3:12:c 2:12:c! 4:12:a")
}

// No other call changes a link.
func TestP14_4_LinksStay(t *testing.T) {
	n := laden(t, "a", "b", "c")
	is(t, n.Link(1, 3, false), true)
	was := matrix(n)
	is(t, say(n.Copy(0), n.Spoil(0, 0), n.Move(0, 1), n.Drop(0), n.Send(1, 3, nil), n.Send(2, 3, nil)), "true true true true false true")
	takes(t, n, 0, "1:12:`!")
	is(t, n.Clear(3), 1)
	is(t, n.Clear(2), 2)
	is(t, matrix(n), was)
}

// mixed is a network of four nodes with mail for three of them.
func mixed(t *testing.T) *net.Net {
	t.Helper()
	n := made(t, 4)
	for i, way := range [][2]int{{1, 2}, {1, 2}, {2, 1}, {3, 2}, {2, 3}, {1, 3}, {4, 2}} {
		send(t, n, way[0], way[1], string(rune('a'+i)))
	}
	return n
}

func TestP14_4_Clear(t *testing.T) {
	for _, x := range []struct {
		to, gone int
		left     string
	}{
		{1, 1, "1:12:a 2:12:b 4:32:d 5:23:e 6:13:f 7:42:g"},
		{2, 4, "3:21:c 5:23:e 6:13:f"},
		{3, 2, "1:12:a 2:12:b 3:21:c 4:32:d 7:42:g"},
		{4, 0, "1:12:a 2:12:b 3:21:c 4:32:d 5:23:e 6:13:f 7:42:g"},
	} {
		n := mixed(t)
		is(t, n.Clear(x.to), x.gone)
		row(t, n, x.left)
		is(t, n.Clear(x.to), 0)
		row(t, n, x.left)
	}
}

func TestP14_4_ClearAll(t *testing.T) {
	n := mixed(t)
	is(t, say(n.Clear(3), n.Clear(1), n.Clear(2), n.Len()), "2 1 4 0")
	is(t, n.Clear(2), 0)
	send(t, n, 1, 4, "h")
	row(t, n, "8:14:h")
	is(t, n.Clear(4), 1)
}

// Copies and spoilt mails for it go too.
func TestP14_4_ClearCopies(t *testing.T) {
	n := mixed(t)
	is(t, say(n.Copy(2), n.Spoil(2, 0), n.Copy(2), n.Move(8, 0), n.Clear(1)), "true true true true 3")
	row(t, n, "1:12:a 2:12:b 4:32:d 5:23:e 6:13:f 7:42:g")
}

// No mail is for one that is no node.
func TestP14_4_ClearNobody(t *testing.T) {
	n := mixed(t)
	was := showAll(n.List())
	for _, to := range []int{0, -1, -2, 5, 8, api.MaxIndex, math.MinInt, math.MaxInt} {
		is(t, n.Clear(to), 0)
	}
	row(t, n, was)
}

// Clear goes over a cut link, too, and leaves it cut.
func TestP14_4_ClearOverACutLink(t *testing.T) {
	n := mixed(t)
	is(t, say(n.Link(1, 2, false), n.Clear(2), n.Linked(1, 2)), "true 4 false")
	row(t, n, "3:21:c 5:23:e 6:13:f")
}
