package snap

import (
	"strconv"
	"strings"

	"synod/api"
)

const (
	prefix = "snap-"
	digits = 19 // MaxIndex has as many
)

// Name is the name of a snapshot's file.
func Name(index int) (string, api.Errno) {
	if index < 1 || index > api.MaxIndex {
		return "", api.ErrRange
	}
	return nameOf(index), api.OK
}

// Index is the index of a snapshot's file.
func Index(name string) (int, bool) {
	text, ok := strings.CutPrefix(name, prefix)
	if !ok || len(text) != digits {
		return 0, false
	}
	// Without a sign, and in 64 bits: there is room for any nineteen digits, and for nothing else.
	index, err := strconv.ParseUint(text, 10, 64)
	if err != nil || index < 1 || index > api.MaxIndex {
		return 0, false
	}
	return int(index), true
}

// nameOf is the name that goes with an index; whoever asks has seen that it is one of a snapshot.
func nameOf(index int) string {
	text := strconv.Itoa(index)
	return prefix + strings.Repeat("0", digits-len(text)) + text
}
