package net

import (
	"slices"

	"synod/api"
)

// add lays a mail of these contents at the row's end, if there is room, with a Number of its own.
func (n *Net) add(m Mail) bool {
	if len(n.row) >= api.MaxMail {
		return false
	}
	n.last++
	m = own(m)
	m.Number = n.last
	n.row = append(n.row, m)
	return true
}

// own is a mail whose data are a copy in memory of its own, so that neither side sees what the other one writes.
func own(m Mail) Mail {
	m.Data = append([]byte(nil), m.Data...)
	return m
}

// at tells whether there is such a place in the row.
func (n *Net) at(i int) bool { return 0 <= i && i < len(n.row) }

// Take takes a mail out.
func (n *Net) Take(i int) (Mail, bool) {
	if !n.at(i) {
		return Mail{}, false
	}
	// Its data are the row's alone, which lets go of them: no copy is needed.
	m := n.row[i]
	n.row = slices.Delete(n.row, i, i+1)
	return m, true
}

// Drop loses a mail.
func (n *Net) Drop(i int) bool {
	_, ok := n.Take(i)
	return ok
}

// Copy doubles a mail.
func (n *Net) Copy(i int) bool { return n.at(i) && n.add(n.row[i]) }

// Spoil turns a bit of a mail.
func (n *Net) Spoil(i, bit int) bool {
	if !n.at(i) || n.row[i].Spoilt || bit < 0 || bit/8 >= len(n.row[i].Data) {
		return false
	}
	n.row[i].Data[bit/8] ^= 1 << (bit % 8)
	n.row[i].Spoilt = true
	return true
}

// Move lets a mail stand elsewhere.
func (n *Net) Move(i, to int) bool {
	if !n.at(i) || !n.at(to) {
		return false
	}
	m, _ := n.Take(i)
	n.row = slices.Insert(n.row, to, m)
	return true
}

// Len tells how many mails there are.
func (n *Net) Len() int { return len(n.row) }

// List is the mails.
func (n *Net) List() []Mail {
	var l []Mail
	for _, m := range n.row {
		l = append(l, own(m))
	}
	return l
}
