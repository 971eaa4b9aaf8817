package wire

import "synod/api"

// Reader reads one behind the other, up to its first error.
type Reader struct {
	data []byte
	at   int
	err  api.Errno
}

// NewReader makes a reader of a copy of the bytes.
func NewReader(b []byte) *Reader { return &Reader{data: fresh(b)} }

// Int reads a number.
func (r *Reader) Int() int {
	n, size := r.peek()
	r.at += size
	return n
}

// Bool reads a bool.
func (r *Reader) Bool() bool {
	n, size := r.peek()
	if n > 1 {
		r.err = api.ErrForm
		return false
	}
	r.at += size
	return n == 1
}

// Bytes reads bytes that have their length ahead.
func (r *Reader) Bytes(most int) []byte { return fresh(r.take(most)) }

// Text reads a text that has its length ahead.
func (r *Reader) Text(most int) string { return string(r.take(most)) }

// Left tells how many bytes are left.
func (r *Reader) Left() int { return len(r.data) - r.at }

// At tells the place.
func (r *Reader) At() int { return r.at }

// Done tells the first error, or that bytes are left.
func (r *Reader) Done() api.Errno {
	if r.err == api.OK && r.Left() > 0 {
		return api.ErrLong
	}
	return r.err
}

// peek is the number at the place, and how many bytes it has; 0 and 0 beside an error. It leaves the place to its
// caller, who may yet find fault with what the number says.
func (r *Reader) peek() (int, int) {
	if r.err != api.OK {
		return 0, 0
	}
	n, size, err := Int(r.data, r.at)
	r.err = err
	return n, size
}

// take answers a piece of the reader's own memory: it is not to be handed out uncopied.
func (r *Reader) take(most int) []byte {
	n, size := r.peek()
	from := r.at + size
	switch {
	case r.err != api.OK:
		return nil
	case n > max(most, 0):
		r.err = api.ErrLong
		return nil
	case n > len(r.data)-from:
		r.err = api.ErrShort
		return nil
	}
	r.at = from + n
	return r.data[from:r.at]
}
