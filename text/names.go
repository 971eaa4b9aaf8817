package text

import (
	"slices"

	"synod/api"
	"synod/node"
)

// unknown stands where there is no word.
const unknown = "?"

// names are words for numbers that rise one by one from the first on.
type names struct {
	first int
	words []string
}

func picks() names {
	return names{node.PNotice, []string{"notice", "work", "inbox", "tick", "call", "write", "sync", "apply", "send"}}
}

func ops() names {
	return names{api.OpGet, []string{"get", "put", "delete", "swap"}}
}

func codes() names {
	return names{api.RDone, []string{"done", "none", "other", "old", "full", "lead", "busy", "lost", "limit", "down"}}
}

// has tells whether a number has a word.
func (l names) has(n int) bool { return n >= l.first && n < l.first+len(l.words) }

// word is a number's word.
func (l names) word(n int) string {
	if !l.has(n) {
		return unknown
	}
	return l.words[n-l.first]
}

// number is the number that a word is of, if there is one.
func (l names) number(word string) (int, bool) {
	i := slices.Index(l.words, word)
	if i < 0 {
		return 0, false
	}
	return l.first + i, true
}
