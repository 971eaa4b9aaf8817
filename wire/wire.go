// Package wire: numbers and bytes, one after the other: see ../shared/doc/01-wire.md.
package wire

import (
	"iter"

	"synod/api"
)

const (
	mostBytes = 9    // bytes of a number: MaxIndex is 63 bits long, nine times seven
	bits      = 7    // of the number in each byte
	more      = 0x80 // added to each byte but the last
)

// Size tells how many bytes a number has; 0, if it is none.
func Size(n int) int {
	if !isNumber(n) {
		return 0
	}
	size := 0
	for range bytesOf(n) {
		size++
	}
	return size
}

// PutInt is a number's bytes.
func PutInt(n int) ([]byte, api.Errno) {
	if !isNumber(n) {
		return nil, api.ErrRange
	}
	return appendInt(nil, n), api.OK
}

// Int is the number at a place, and how many bytes it has.
func Int(b []byte, at int) (int, int, api.Errno) {
	if at < 0 || at >= len(b) {
		return 0, 0, api.ErrShort
	}
	n, size, last := 0, 0, byte(0)
	for c := range bytesAhead(b[at:]) {
		// Nine times seven bits stay below the sign: even a number above MaxIndex doesn't wrap here.
		n |= int(c&^more) << (bits * size)
		size++
		last = c
	}
	switch {
	case last >= more && size < mostBytes:
		return 0, 0, api.ErrShort
	case last >= more, last == 0 && size > 1:
		return 0, 0, api.ErrForm
	case n > api.MaxIndex:
		return 0, 0, api.ErrRange
	}
	return n, size, api.OK
}

func isNumber(n int) bool { return n >= 0 && n <= api.MaxIndex }

// appendInt is asked for numbers alone: its callers have ruled out the others.
func appendInt(b []byte, n int) []byte {
	for c := range bytesOf(n) {
		b = append(b, c)
	}
	return b
}

// bytesOf yields the bytes of a number, the lowest first.
func bytesOf(n int) iter.Seq[byte] {
	return func(yield func(byte) bool) {
		rest := n
		for ; rest >= more; rest >>= bits {
			if !yield(byte(rest) | more) {
				return
			}
		}
		yield(byte(rest))
	}
}

// bytesAhead yields the bytes that b begins with, up to the one that ends a number. It yields no more than a number may
// have, so that what never ends is told from what is cut off without going through it all.
func bytesAhead(b []byte) iter.Seq[byte] {
	return func(yield func(byte) bool) {
		for _, c := range b[:min(len(b), mostBytes)] {
			if !yield(c) || c < more {
				return
			}
		}
	}
}

// fresh is a copy in memory of its own, so that neither side sees what the other one writes.
func fresh(b []byte) []byte { return append([]byte(nil), b...) }
