package net_test

import (
	"fmt"
	"math"
	"slices"
	"testing"

	"synod/api"
	"synod/net"
)

// letters are so many texts of one letter.
func letters(n int) (l []string) {
	for i := range n {
		l = append(l, string(rune('a'+i)))
	}
	return l
}

// marks are mails of these places of a row of letters, as text.
func marks(places []int) string {
	var l []net.Mail
	for _, i := range places {
		l = append(l, net.Mail{Number: i + 1, From: 1, To: 2, Data: []byte{byte('a' + i)}})
	}
	return showAll(l)
}

// upTo are the numbers below n.
func upTo(n int) (l []int) {
	for i := range n {
		l = append(l, i)
	}
	return l
}

func TestP14_3_TakeEachPlace(t *testing.T) {
	for mails := 1; mails <= 6; mails++ {
		for i := range mails {
			n := laden(t, letters(mails)...)
			takes(t, n, i, marks([]int{i}))
			row(t, n, marks(slices.Delete(upTo(mails), i, i+1)))
		}
	}
}

func TestP14_3_DropEachPlace(t *testing.T) {
	for mails := 1; mails <= 6; mails++ {
		for i := range mails {
			n := laden(t, letters(mails)...)
			is(t, n.Drop(i), true)
			row(t, n, marks(slices.Delete(upTo(mails), i, i+1)))
		}
	}
}

// A mail that is taken is told whole.
func TestP14_3_TakeWhole(t *testing.T) {
	n := made(t, 7)
	send(t, n, 6, 7, "abc")
	send(t, n, 7, 1, "")
	is(t, say(n.Copy(0), n.Spoil(2, 16)), "true true")
	is(t, say(n.Take(2)), "{3 6 7 [97 98 98] true} true")
	is(t, say(n.Take(1)), "{2 7 1 [] false} true")
	is(t, say(n.Take(0)), "{1 6 7 [97 98 99] false} true")
	is(t, say(n.Take(0)), "{0 0 0 [] false} false")
}

// Where there is no mail nothing is done.
func TestP14_3_NoSuchPlace(t *testing.T) {
	for mails := range 4 {
		n := laden(t, letters(mails)...)
		for _, i := range nowhere(mails) {
			m, ok := n.Take(i)
			if ok || m.Number != 0 || m.From != 0 || m.To != 0 || len(m.Data) != 0 || m.Spoilt {
				t.Errorf("%d mails: Take(%d) is %v, %t", mails, i, m, ok)
			}
			is(t, say(n.Drop(i), n.Copy(i), n.Spoil(i, 0), n.Move(i, 0), n.Move(0, i), n.Move(i, i)), "false false false false false false")
			row(t, n, marks(upTo(mails)))
		}
		send(t, n, 1, 2, string(rune('a'+mails)))
		row(t, n, marks(upTo(mails+1)))
	}
}

func TestP14_3_CopyEachPlace(t *testing.T) {
	for mails := 1; mails <= 4; mails++ {
		for i := range mails {
			n := laden(t, letters(mails)...)
			was := showAll(n.List())
			is(t, n.Copy(i), true)
			row(t, n, fmt.Sprintf("%s %d:12:%c", was, mails+1, 'a'+i))
		}
	}
}

// A copy of a copy, and a mail and its copy that go their own ways.
func TestP14_3_CopiesAreMails(t *testing.T) {
	n := made(t, 3)
	send(t, n, 3, 2, "ab")
	is(t, say(n.Copy(0), n.Copy(1), n.Spoil(1, 0)), "true true true")
	row(t, n, "1:32:ab 2:32:`b! 3:32:ab")
	is(t, say(n.Spoil(0, 8), n.Spoil(2, 9)), "true true")
	row(t, n, "1:32:ac! 2:32:`b! 3:32:a`!")
	is(t, n.Drop(0), true)
	row(t, n, "2:32:`b! 3:32:a`!")
}

// A copy is the same: of a spoilt mail it is spoilt, with that bit turned, and no further bit turns.
func TestP14_3_CopyOfSpoilt(t *testing.T) {
	n := laden(t, "a")
	is(t, say(n.Spoil(0, 1), n.Copy(0)), "true true")
	row(t, n, "1:12:c! 2:12:c!")
	is(t, say(n.Spoil(1, 0), n.Spoil(1, 1), n.Spoil(0, 1)), "false false false")
	row(t, n, "1:12:c! 2:12:c!")
}

// Copy doesn't ask for links.
func TestP14_3_CopyOverACutLink(t *testing.T) {
	n := laden(t, "a")
	is(t, say(n.Link(1, 2, false), n.Send(1, 2, nil), n.Copy(0)), "true false true")
	row(t, n, "1:12:a 2:12:a")
}

// Each bit of some data, each of which turns alone, whether it was set or not.
func TestP14_3_SpoilEachBit(t *testing.T) {
	for _, data := range [][]byte{{0}, {0xff}, {0x5a, 0xa5}, {1, 2, 3}, []byte("synod")} {
		for bit := range 8 * len(data) {
			n := made(t, 2)
			is(t, say(n.Send(1, 2, data), n.Spoil(0, bit)), "true true")
			want := slices.Clone(data)
			if j, k := bit/8, bit%8; want[j]>>k&1 == 1 {
				want[j] -= 1 << k
			} else {
				want[j] += 1 << k
			}
			is(t, say(n.Take(0)), say(net.Mail{Number: 1, From: 1, To: 2, Data: want, Spoilt: true}, true))
		}
	}
}

func TestP14_3_NoSuchBit(t *testing.T) {
	for size := range 4 {
		n := made(t, 2)
		is(t, n.Send(1, 2, make([]byte, size, 64)), true)
		for _, bit := range []int{-1, -7, -8, -9, -8 * size, 8 * size, 8*size + 1, 8*size + 7, 8*size + 8, 300, api.MaxIndex, math.MinInt, math.MaxInt} {
			if (bit < 0 || bit >= 8*size) && n.Spoil(0, bit) {
				t.Errorf("%d bytes: bit %d is turned", size, bit)
			}
		}
		is(t, say(n.List()), say([]net.Mail{{Number: 1, From: 1, To: 2, Data: make([]byte, size)}}))
		is(t, n.Spoil(0, 8*size-1), size > 0)
	}
}

// A spoilt mail isn't spoilt again, by no bit, wherever it stands.
func TestP14_3_SpoiltOnce(t *testing.T) {
	for first := range 16 {
		n := laden(t, "ab", "cd")
		is(t, n.Spoil(0, first), true)
		was := showAll(n.List())
		for bit := range 16 {
			is(t, n.Spoil(0, bit), false)
		}
		row(t, n, was)
		is(t, say(n.Move(0, 1), n.Spoil(1, first), n.Spoil(0, first)), "true false true")
	}
}

// Each place of rows of up to 6 mails, to each other one: the others stand as they did.
func TestP14_3_MoveEachPlace(t *testing.T) {
	for mails := 1; mails <= 6; mails++ {
		for i := range mails {
			for to := range mails {
				n := laden(t, letters(mails)...)
				is(t, n.Move(i, to), true)
				others := slices.Delete(upTo(mails), i, i+1)
				want := append(append(slices.Clone(others[:to]), i), others[to:]...)
				row(t, n, marks(want))
				send(t, n, 1, 2, string(rune('a'+mails)))
				row(t, n, marks(append(want, mails)))
			}
		}
	}
}

// A mail goes as a whole to its new place, and back.
func TestP14_3_MoveWhole(t *testing.T) {
	n := made(t, 3)
	send(t, n, 1, 2, "ab")
	send(t, n, 2, 3, "")
	send(t, n, 3, 1, "c")
	is(t, say(n.Spoil(0, 3), n.Move(0, 2)), "true true")
	row(t, n, "2:23: 3:31:c 1:12:ib!")
	is(t, n.Move(2, 0), true)
	row(t, n, "1:12:ib! 2:23: 3:31:c")
}

// Where the row is full a mail may move still: that takes no room.
func TestP14_3_MoveWhereFull(t *testing.T) {
	n := full(t)
	is(t, say(n.Move(0, api.MaxMail-1), n.Move(5, 0), n.Move(0, api.MaxMail), n.Len()), say(true, true, false, api.MaxMail))
	l := n.List()
	is(t, say(l[0].Number, l[1].Number, l[api.MaxMail-1].Number), "7 2 1")
}

func TestP14_3_LenAndList(t *testing.T) {
	n := made(t, 2)
	is(t, say(n.Len(), len(n.List())), "0 0")
	want := ""
	for i := range 30 {
		send(t, n, 2, 1, "x")
		want = say(want, fmt.Sprintf("%d:21:x", i+1))
		row(t, n, want[1:])
	}
	// A look changes nothing.
	for range 3 {
		row(t, n, want[1:])
	}
	for i := range 30 {
		is(t, n.Len(), 30-i)
		is(t, n.Drop(0), true)
	}
	is(t, say(n.Len(), len(n.List())), "0 0")
}
