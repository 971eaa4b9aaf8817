package wire

import "synod/api"

// Writer puts one behind the other, up to its first error.
type Writer struct {
	out []byte
	err api.Errno
}

// NewWriter makes a writer.
func NewWriter() *Writer { return &Writer{} }

// Int puts a number.
func (w *Writer) Int(n int) {
	if w.err != api.OK {
		return
	}
	if !isNumber(n) {
		w.fail(api.ErrRange)
		return
	}
	w.out = appendInt(w.out, n)
}

// Bool puts a bool.
func (w *Writer) Bool(v bool) {
	if v {
		w.Int(1)
	} else {
		w.Int(0)
	}
}

// Bytes puts bytes, with their length ahead.
func (w *Writer) Bytes(b []byte, most int) {
	if w.err != api.OK {
		return
	}
	if len(b) > max(most, 0) {
		w.fail(api.ErrLong)
		return
	}
	w.out = append(appendInt(w.out, len(b)), b...)
}

// Text puts a text, with its length ahead.
func (w *Writer) Text(s string, most int) { w.Bytes([]byte(s), most) }

// Done is all that was put, or the first error.
func (w *Writer) Done() ([]byte, api.Errno) { return fresh(w.out), w.err }

// fail drops what was put: behind an error nobody is handed it any more.
func (w *Writer) fail(err api.Errno) {
	w.err = err
	w.out = nil
}
