package wal

import (
	"strconv"
	"strings"

	"synod/api"
)

const (
	prefix     = "wal-"
	digits     = 8
	mostNumber = 99999999 // what the digits have room for
)

// segment is a file of the wal.
type segment struct{ number, bytes int }

func (s segment) name() string { return nameOf(s.number) }

// Name is the name of a segment.
func Name(n int) (string, api.Errno) {
	if n < 1 || n > mostNumber {
		return "", api.ErrRange
	}
	return nameOf(n), api.OK
}

// Number is the number of a segment's name.
func Number(name string) (int, bool) {
	text, ok := strings.CutPrefix(name, prefix)
	if !ok || len(text) != digits {
		return 0, false
	}
	n := 0
	for i := range len(text) {
		if text[i] < '0' || text[i] > '9' {
			return 0, false
		}
		n = 10*n + int(text[i]-'0')
	}
	return n, n > 0
}

// nameOf is the name that goes with a number; whoever asks has seen that it is one of a segment.
func nameOf(n int) string {
	text := strconv.Itoa(n)
	return prefix + strings.Repeat("0", max(0, digits-len(text))) + text
}
