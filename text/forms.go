package text

import (
	"strconv"

	"synod/api"
	"synod/world"
)

// form is the line of an act: its first word, what that word says by itself, and what the words behind it stand for.
type form struct {
	word   string
	says   world.Act
	places []place
}

// place is what a word stands for, a field of the act: of these functions there is just one.
type place struct {
	number func(a *world.Act) *int
	pick   func(a *world.Act) *int // a number that is told by a word of its own
	text   func(a *world.Act) *string
}

// forms makes the lines that there are.
func forms() []form {
	at := place{number: func(a *world.Act) *int { return &a.Node }}
	client := place{number: func(a *world.Act) *int { return &a.Client }}
	n := place{number: func(a *world.Act) *int { return &a.N }}
	m := place{number: func(a *world.Act) *int { return &a.M }}
	pick := place{pick: func(a *world.Act) *int { return &a.N }}
	key := place{text: func(a *world.Act) *string { return &a.Key }}
	value := place{text: func(a *world.Act) *string { return &a.Value }}
	old := place{text: func(a *world.Act) *string { return &a.Old }}
	return []form{
		{"tick", world.Act{Kind: world.WTick}, []place{at, n}},
		{"pick", world.Act{Kind: world.WPick}, []place{at, pick}},
		{"deliver", world.Act{Kind: world.WDeliver}, []place{n}},
		{"drop", world.Act{Kind: world.WDrop}, []place{n}},
		{"copy", world.Act{Kind: world.WCopy}, []place{n}},
		{"spoil", world.Act{Kind: world.WSpoil}, []place{n, m}},
		{"move", world.Act{Kind: world.WMove}, []place{n, m}},
		{"link", world.Act{Kind: world.WLink, M: 1}, []place{at, n}},
		{"cut", world.Act{Kind: world.WLink}, []place{at, n}},
		{"crash", world.Act{Kind: world.WCrash}, []place{at, n}},
		{"start", world.Act{Kind: world.WStart}, []place{at, n}},
		{"arm", world.Act{Kind: world.WArm}, []place{at, n}},
		{"stop", world.Act{Kind: world.WStop}, []place{at}},
		{"get", world.Act{Kind: world.WCall, Op: api.OpGet}, []place{client, at, key}},
		{"delete", world.Act{Kind: world.WCall, Op: api.OpDelete}, []place{client, at, key}},
		{"put", world.Act{Kind: world.WCall, Op: api.OpPut}, []place{client, at, key, value}},
		{"swap", world.Act{Kind: world.WCall, Op: api.OpSwap}, []place{client, at, key, old, value}},
		{"again", world.Act{Kind: world.WAgain}, []place{client, at}},
		{"give", world.Act{Kind: world.WGive}, []place{client}},
		{"calm", world.Act{Kind: world.WCalm}, []place{at, n}},
	}
}

// read puts what a word says into its field.
func (p place) read(a *world.Act, word string) api.Errno {
	switch {
	case p.text != nil:
		*p.text(a) = word
	case p.pick != nil:
		n, ok := picks().number(word)
		if !ok {
			return api.ErrWord
		}
		*p.pick(a) = n
	default:
		n, ok := number(word)
		if !ok {
			return api.ErrNumber
		}
		*p.number(a) = n
	}
	return api.OK
}

// show is the word of a field that may be told by one.
func (p place) show(a world.Act) string {
	switch {
	case p.text != nil:
		return Quote(*p.text(&a))
	case p.pick != nil:
		return picks().word(*p.pick(&a))
	}
	return strconv.Itoa(*p.number(&a))
}

// clear leaves nothing in a field.
func (p place) clear(a *world.Act) {
	switch {
	case p.text != nil:
		*p.text(a) = ""
	case p.pick != nil:
		*p.pick(a) = 0
	default:
		*p.number(a) = 0
	}
}
